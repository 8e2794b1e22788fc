import Derived.Test.YtbplbjmmfgjdjaaGreatDoorMN6
import Derived.Lib.Builder
import Derived.Laws.Externs
import Derived.Lib.UnsafeStr
import Derived.Shelf.RegionOpen
import Derived.OrdersIn
import Derived.OrdersHeld
import Derived.Shelf.Strings.Builder1
import Derived.Shelf.Strings.Builder2
import Derived.Shelf.Strings.Split
import Derived.Shelf.Strings.Replace
import Derived.Shelf.Unicode.DecodeAny
import Derived.Ground.Names2Prog
import Derived.Shelf.Slices.Clone
import Derived.Ground.SlgnProg
import Derived.Shelf.SlicesE.Clone
set_option maxRecDepth 100000
set_option maxHeartbeats 64000000
namespace Go.Proofs.YtbplbjmmfgjdjaaGreatDoor
open Go.RowKit
def lS (n deep base:Nat)(ts:List ah):Prop :=
 if n≤4 then ∃f,eZ f n deep base ts=some (.error 6)else ∃f,jF f deep base ts=some (.error 6)
def BX (n deep base:Nat)(ts:List ah):Prop :=
 lS (n+1) deep base ts∨∃wz a1 r1 g,At (n+1) deep base ts wz a1 r1∧iK g n deep base wz a1 r1=some (.error 6)
theorem BX.at {n deep base:Nat}{ts:List ah}(hn:n≤3)(h:BX n deep base ts):lS n deep base ts:=by
 rcases h with h|⟨wz,a1,r1,g,h1,h2⟩
 · unfold lS at h ⊢
   rw[ag (by omega)]at h ⊢;obtain⟨f,hf⟩:=h;exact⟨f+1,by rw[lW,ag hn,hf];rfl⟩
 · unfold At at h1
   unfold lS;rw[ag (by omega)]at h1 ⊢;obtain⟨f,hf⟩:=h1;refine⟨max f g+1, ?_⟩;rw[lW,ag hn,wY (Nat.le_max_left f g) hf];exact Fj (Nat.le_max_right f g) h2
theorem lS.down {deep base:Nat}{ts:List ah}(n:Nat):∀(k:Nat),n+k≤5→lS (n+k) deep base ts→(n+k=5→ay ⟨#[45]⟩ ts=false)→lS n deep base ts
 | 0,_,h,_=>h
 | k + 1,hk,h,hm=>by
   have h1:lS (n+k) deep base ts:=by
    by_cases c:n+(k+1)=5
    · have hs:=hm c
      rw[c]at h;rw[show n+k=4 by omega];unfold lS at h ⊢;rw[af (by omega)]at h;rw[ag (by omega)];obtain⟨f,hf⟩:=h;exact⟨f+1,by rw[lW,af (by omega),hs,af (by simp)];exact hf⟩
    · exact BX.at (by omega) (.inl h)
   exact lS.down n k (by omega) h1 (fun h=>by omega)
structure Xw (base:Nat)(ts:List ah)(rk d:Nat):Prop where
 high:∀deep rest,deep≤12→12<deep+d→ay ⟨#[58]⟩ rest=false→4≤rk→lS rk deep base (ts++rest)
 low:∀deep rest,deep≤12→12<deep+d→ay ⟨#[58]⟩ rest=false→rk≤3→Stop (rk+1) rest→BX rk deep base (ts++rest)
structure yO (base:Nat)(ns:List Nd)(a:Nat)(ts:List ah)(rk d:Nat):Prop where
 back:mr base ns a ts rk d
 far:Xw base ts rk d
theorem yO.at {base:Nat}{ns:List Nd}{a:Nat}{ts:List ah}{rk d:Nat}(h:yO base ns a ts rk d)(n deep:Nat)(rest:List ah)(hn:n≤rk)(hd:deep≤12)(hf:12<deep+d)(hc:ay ⟨#[58]⟩ rest=false)(hs:Stop n rest) :
 lS n deep base (ts++rest):=by
 have hle:=h.back.le
 have h1:lS rk deep base (ts++rest):=by
  by_cases c:4≤rk
  · exact h.far.high deep rest hd hf hc c
  · exact BX.at (by omega) (h.far.low deep rest hd hf hc (by omega) (hs.more (by omega)))
 refine lS.down n (rk - n) (by omega) ?_ (fun e=>h.back.minus (by omega) rest);rwa[show n+(rk - n)=rk by omega]
theorem yO.goes {base:Nat}{ns:List Nd}{a:Nat}{ts:List ah}{rk d:Nat}(h:yO base ns a ts rk d)(n deep:Nat)(rest:List ah)(hn:n≤rk)(GR:n≤3)(hd:deep≤12)(hf:12<deep+d)(hc:ay ⟨#[58]⟩ rest=false)(hs:Stop (n+1) rest) :
 BX n deep base (ts++rest):=by
 by_cases c:n=rk
 · subst c;exact h.far.low deep rest hd hf hc GR hs
 · exact .inl (h.at (n+1) deep rest (by omega) hd hf hc hs)
theorem yO.wr {base:Nat}{ns:List Nd}{a:Nat}{ts:List ah}{rk d n d':Nat}{ts':List ah}(h:yO base ns a ts rk d)(hw:Wr n rk d ts d' ts')(hn:n≤5):∃oJ,n≤oJ∧yO base ns a ts' oJ d':=by
 rcases hw with ⟨h1,rfl,rfl⟩|⟨h1,rfl,l,r,hl,hr,rfl⟩
 · exact⟨rk,h1,h⟩
 · refine ⟨5,hn,h.back.brk hl hr,⟨fun deep rest hd hf hc _ => ?_,fun deep rest _ _ _ h=>by omega⟩⟩
   unfold lS;rw[af (by omega)];by_cases c:12≤deep
   · exact⟨1,by rw[dE,l7,hl.sign,ag (by decide),ag c]⟩
   · have h1:=h.at 0 (deep+1) (r :: rest) (by omega) (by omega) (by omega) (by rw[hr.sign];decide) (Dm hr rest (by decide) 0)
     unfold lS at h1;rw[ag (by omega)]at h1;obtain⟨f,hf⟩:=h1;exact⟨f+1,by rw[dE,l7,hl.sign,ag (by decide),af c,bQ,qj,hf];rfl⟩
def Xx (base:Nat)(ts:List ah)(d:Nat):Prop :=
 ∀deep rest,deep≤12→12<deep+d→ay ⟨#[58]⟩ rest=false→Stop 0 rest→∃g,iq g deep base [] [] (ts++rest)=some (.error 6)
theorem ah8 {b:Bool}{base:Nat}{ns:List Nd}{ks:List Int}{ts:List ah}{qM d:Nat}(h:Sh b base ns ks ts qM d) :
 (b=false→∃a:Nat,ks=[(a:Int)]∧yO base ns a ts qM d)∧(b=true→BV base ns ks ts d∧Xx base ts d):=by
 induction h with
 | leaf base ts nd h =>
   refine⟨fun _=>⟨base,rfl,Qa h,⟨fun deep rest h1 h2=>by omega,fun deep rest h1 h2=>by omega⟩⟩,fun h=>by cases h⟩
 | neg base ns a ts rk d h m hm d' ts' hw ih =>
   refine⟨fun _ => ?_,fun h=>by cases h⟩;obtain⟨a',e,hb⟩:=ih.1 rfl;obtain rfl:a=(a':Int):=by simpa using e
   obtain⟨oJ,h1,hb'⟩:=hb.wr hw (by omega);refine⟨_,rfl,Qb hb'.back hm h1,⟨fun deep rest hd hf hc _ => ?_,fun deep rest _ _ _ h=>by omega⟩⟩;unfold lS;rw[ag (by omega)];by_cases c:12≤deep
   · exact⟨1,by rw[dE,lW,af (by omega),hm.sign,ag (by decide),ag c]⟩
   · have h2:=hb'.at 4 (deep+1) rest h1 (by omega) (by omega) hc (WC _)
     unfold lS at h2;rw[ag (by omega)]at h2;obtain⟨f,hf'⟩:=h2;exact⟨f+1,by rw[dE,lW,af (by omega),hm.sign,ag (by decide),af c,List.tail_cons,hf'];rfl⟩
 | op base o ho ns ms a b ts us qd mO d1 d2 h g s hs e1 e2 ts' lg hw gw ih ky =>
   refine⟨fun _ => ?_,fun h=>by cases h⟩;have hr:=NB o;obtain⟨a',e,hb⟩:=ih.1 rfl;obtain rfl:a=(a':Int):=by simpa using e
   obtain⟨b',e',gb⟩:=ky.1 rfl;obtain rfl:b=(b':Int):=by simpa using e'
   obtain⟨r1,h1,hb'⟩:=hb.wr hw (by omega);obtain⟨r2,h2,GI⟩:=gb.wr gw (by omega);refine⟨_,rfl,Qd ho hb'.back GI.back hs h1 h2,⟨fun deep rest _ _ _ e=>by omega,fun deep rest hd hf hc _ hst => ?_⟩⟩;have zy:ay ⟨#[58]⟩ (s :: (lg++rest))=false:=by rw[hs.sign];exact aV (UD o ho)
   rw[bQ,dE];by_cases c:12<deep+e1
   · exact hb'.goes (rk o) deep _ h1 hr hd c zy (NV ho hs _)
   · obtain⟨wz,a1,q1,k1,k2⟩:=hb'.back.goes (rk o) deep (s :: (lg++rest)) h1 hr (by omega) zy (NV ho hs _)
     have k3:=GI.at (rk o+1) deep rest h2 hd (by omega) hc hst;unfold lS at k3;rw[ag (by omega)]at k3;obtain⟨f,hf'⟩:=k3;obtain⟨g',hg'⟩:=k2 (f+1) (.error 6) (by rw[qL,MZ s _ o ho hs.1 hs.2 _ hr,ag rfl,af (by omega),List.tail_cons,hf'];rfl);exact .inr ⟨wz,a1,q1,g',k1,hg'⟩
 | call base ns ks ts d h t l r ht h1 h2 hl hr ih =>
   refine⟨fun _ => ?_,fun h=>by cases h⟩;obtain⟨hb,hfa⟩:=ih.2 rfl;refine⟨_,rfl,P9 hb ht h1 h2 hl hr,⟨fun deep rest hd hf hc _ => ?_,fun deep rest _ _ _ h=>by omega⟩⟩
   have hs:∀(s:ByteArray)(us:List ah),ay s (t :: us)=false:=by
    intro s us;unfold ay;simp only[ht];rfl
   unfold lS;rw[af (by omega)];by_cases c:12≤deep
   · refine⟨1, ?_⟩
     rw[dE,dE,bQ,qj,l7,hs,af (by simp),af (by omega),af (by omega),af (by omega),af (by omega),ag ht,af h1,af h2,hl.sign,ag (by decide),ag c]
   · obtain ⟨f,hf'⟩:=hfa (deep+1) (r :: rest) (by omega) (by omega) (by rw[hr.sign];decide) (Dm hr rest (by decide) 0)
     have hcl:ay ⟨#[41]⟩ (ts++r :: rest)=false:=by
      rcases hb with ⟨_,_,rfl,hd0⟩|⟨_,g1,_⟩
      · omega
      · exact g1 _
     refine⟨f+1, ?_⟩;rw[dE,dE,bQ,qj,l7,hs,af (by simp),af (by omega),af (by omega),af (by omega),af (by omega),ag ht,af h1,af h2,hl.sign,ag (by decide),af c,List.tail_cons,hcl,af (by simp),hf'];rfl
 | none base=>exact⟨fun h=>(by cases h),fun _=>⟨.inl ⟨rfl,rfl,rfl,rfl⟩,fun deep rest h1 h2=>by omega⟩⟩
 | one base ns a ts rk d h ih =>
   refine⟨fun h=>(by cases h),fun _ => ?_⟩;obtain⟨a',e,hb⟩:=ih.1 rfl;obtain rfl:a=(a':Int):=by simpa using e
   refine⟨Qc hb.back,fun deep rest hd hf hc hs => ?_⟩;have h1:=hb.at 0 deep rest (by omega) hd hf hc hs;unfold lS at h1;rw[ag (by omega)]at h1;obtain⟨f,hf'⟩:=h1;exact⟨f+1,by rw[pO,dX,Nat.add_zero,hf'];rfl⟩
 | and base ns ms ks b ts us rk d1 d2 h hk c hc g ih ky =>
   refine⟨fun h=>(by cases h),fun _ => ?_⟩;obtain⟨hb,hfa⟩:=ih.2 rfl;obtain⟨b',e,gb⟩:=ky.1 rfl;obtain rfl:b=(b':Int):=by simpa using e
   refine⟨P8 hb hk hc gb.back,fun deep rest hd hf zy hs => ?_⟩;rw[bQ,dE];have hc1:ay ⟨#[58]⟩ (c :: (us++rest))=false:=by rw[hc.sign];decide
   have hs1:=Dm hc (us++rest) (by decide) 0;by_cases c1:12<deep+d1
   · exact hfa deep _ hd c1 hc1 hs1
   · rcases hb with ⟨h,_⟩|⟨_,_,h2⟩
     · exact absurd h hk
     · have k1:=gb.at 0 deep rest (by omega) hd (by omega) zy hs
       unfold lS at k1;rw[ag (by omega)]at k1;obtain⟨f,hf'⟩:=k1;exact h2 deep _ (by omega) hc1 hs1 (f+1) (.error 6) (by rw[hc.sign,ag (by decide),List.tail_cons,pO,hf'];rfl)
theorem ah7 {ns:List Nd}{a:Int}{ts:List ah}{rk d:Nat}(h:Sh false 0 ns [a] ts rk d)(hd:12<d)(e:ah)(he:e.kind=0):∃f,j4 f (ts++[e])=some (.error 6):=by
 obtain⟨a',_,hb⟩:=(ah8 h).1 rfl;have hsg:∀s:ByteArray,ay s [e]=false:=by intro s;unfold ay;simp only[he];rfl
 have h1:=hb.at 0 0 [e] (by omega) (by omega) (by omega) (hsg _) (by
  intro m _ _;unfold fH
  have hf:(gp m).find? (fun p=>ay p.1 [e])=none:=by
   rw[List.find?_eq_none];intro p _;rw[hsg];simp
  rw[hf])
 unfold lS at h1;rw[ag (by omega)]at h1;obtain⟨f,hf⟩:=h1;exact⟨f,by unfold j4;rw[hf];rfl⟩
theorem ajx {ns:List Nd}(h:dA ns=true)(hm:∀n∈ns,n.num≤9223372036854775807):∃vs g,gT (di ns)=some vs∧(j4 g vs=some (.ok ns)∨j4 g vs=some (.error 6)):=by
 obtain⟨a,ts,rk,d,h1,h2⟩:=Jf h hm;rw[Dl h1 h];by_cases hd:d≤12
 · obtain⟨vs,g,k1,k2⟩:=VZ h1 hd h2
   exact⟨vs,g,k1,.inl k2⟩
 · obtain⟨vs,e,k1,k2,k3⟩:=MB ts 0 ((NI h1).1 rfl).1 h2
   obtain⟨g,hg⟩:=ah7 (h1.goto vs k3) (by omega) e k2;exact⟨vs++[e],g,k1,.inr hg⟩
theorem Oh {ns:List Nd}(h:dA ns=true)(hm:∀n∈ns,n.num≤9223372036854775807):di ns≠[]:=by
 obtain⟨a,ts,rk,d,h1,h2⟩:=Jf h hm;rw[Dl h1 h];obtain⟨_,⟨t,l,rfl,_⟩,_⟩:=(NI h1).1 rfl;obtain⟨x,k,e,_⟩:=Od (h2 t (by simp));rw[lN,e];simp
theorem WO {sh:List Int}{c r:Int}{ac ar:Bool}(h:dO sh c r=true):bE sh c r ac ar≠[]:=by
 unfold bE;rw[ag h];intro e;exact uD _ (List.append_eq_nil_iff.1 e).2
theorem acN {b:Bool}{t:List Int}(h:t≠[]):jm b t≠[]:=by
 unfold jm;split
 · simp
 · exact h
theorem VP {t:ByteArray}(h:t≠⟨#[]⟩):sb t≠[]:=by
 intro e;apply h;have h1:=bC t;rw[e]at h1;have h1:t.size=0:=h1.symm;cases t with
 | mk d =>
   have:d=#[]:=Array.eq_empty_of_size_eq_zero h1;rw[this]
theorem afB:∀o:Nat,o<11→rQ o≠[]:=by decide
theorem Tn {n:Nd}(h:aO n=true)(hk:n.kind=5):bX n.ref=true:=by
 unfold aO at h;split at h
 · cases h
 · simpa [hk]using h
theorem adE {n:Nd}(h:aO n=true)(hk:n.kind=1):0≤n.num:=by
 unfold aO at h;split at h
 · cases h
 · simpa [hk]using h
theorem ah4 {l:List Nd}(h:dA l=true){i:Int}(h0:0≤i)(h1:i<l.length):bJ l i≠[]:=by
 obtain⟨hnb, -⟩:=zZ h h0 h1;obtain⟨-, -, -,b1,b2,hl⟩:=rz hnb;rw[wE h h0 h1 _ rfl];split
 · exact uD _
 split
 · simp
 split
 · split <;> simp
 split
 · simp
 split
 · exact WO (Tn hl ‹_›)
 split
 · simp
 split
 · simp
 split
 · simp
 · have:=afB (((nodeAt l i).kind - 9).toNat) (by omega)
   simp[this]
theorem U0 {l:List Nd}(h:dA l=true)(p:aD)(hp:kr l p):kX l p≠[]:=by
 unfold kX;by_cases ht:p.t=⟨#[]⟩
 · obtain⟨h0,h1⟩:=hp ht
   rw[ag ht];exact acN (ah4 h h0 h1)
 · rw[af ht];exact VP ht
theorem GH {l:List Nd}(h:dA l=true):∀ps:List aD,(∀p∈ps,kr l p)→ps.length≤(ps.flatMap (kX l)).length
 | [],_=>aj _
 | p :: ps,hp=>by
   have ih:=GH h ps fun q hq=>hp q (List.mem_cons_of_mem _ hq)
   have h1:=List.length_pos_iff.2 (U0 h p (hp p (by simp)));rw[qm,ax,bf];omega
theorem Gy:∀(k u:Nat),u<10 ^ (k+1)→(bn u).length≤k+1
 | 0,u,h=>by rw[pR u (by simpa using h)];simp
 | k + 1,u,h=>by
   by_cases h1:u<10
   · rw[pR u h1];simp
   · rw[uC u h1,ax,fo]
     have:=Gy k (u / 10) (by rw[Nat.pow_succ]at h;omega);omega
theorem aac (n:Int):(bG n).length≤2:=by
 unfold bG;split
 · simp
 · split <;> simp
theorem zX (sh:List Int)(c r:Int)(ac ar:Bool):(bE sh c r ac ar).length≤sh.length+8:=by
 unfold bE;split
 · rename_i h
   unfold dO at h;rw[dJ,aQ]at h;have h1:=Gy 2 (r+1).toNat (by omega);have h2:=aac c;have h3:(if sh=[]then ([]:List Int)else sh++[33]).length≤sh.length+1:=by split <;> simp
   have h4:∀b:Bool,(if b=true then [(36:Int)]else []).length≤1:=by intro b;split <;> simp
   have h5:=h4 ac;have h6:=h4 ar;simp only[ax];omega
 · simp
theorem KV:∀l:List Int,(fw l).length≤2*l.length
 | []=>aj _
 | x :: l=>by
   have:=KV l;show((if x=34 then [34,34]else [x])++fw l).length≤_;rw[ax,bf];have:(if x=34 then [34,34]else [x]:List Int).length≤2:=by split <;> simp
   omega
def nC(n:Nd):Nat:=2*n.text.size+n.ref.sh.size+n.ai.sh.size+60
def qP(ns:List Nd):Nat:=(ns.map nC).sum
theorem Fv(a b:List Nd):qP (a++b)=qP a+qP b:=by unfold qP;simp
theorem Ja(n:Nd):qP [n]=nC n:=by unfold qP;simp
theorem qU(t:ah)(ts:List ah):(iF (t :: ts)).length=(dU t).length+(iF ts).length:=by rw[lN,ax]
theorem yM:iF []=[]:=rfl
theorem Ow {n rk d d':Nat}{ts ts':List ah}(h:Wr n rk d ts d' ts'):(iF ts').length≤(iF ts).length+2:=by
 rw[Jg h];unfold jm;split
 · simp
 · omega
theorem adD {ts:List ah}{nd:Nd}(h:pI ts nd)(hm:nd.num≤9223372036854775807):(iF ts).length+4≤nC nd:=by
 cases h with
 | num t h =>
   have hm:t.num≤9223372036854775807:=hm;have h1:=Gy 18 t.num.toNat (by omega);rw[qU,yM];unfold dU nC;rw[ag h,dX];omega
 | text t h =>
   have h1:=KV (sb t.text);rw[bC]at h1;rw[qU,yM];unfold dU nC;rw[af (by omega),ag h,dX,bf,ax,fo];show _≤2*t.text.size+_+_+60;omega
 | yes t h g=>rw[qU,yM];unfold dU nC;rw[af (by omega),af (by omega),af (by omega),af (by omega),g,bC];show 4+0+4≤_;omega
 | no t h g=>rw[qU,yM];unfold dU nC;rw[af (by omega),af (by omega),af (by omega),af (by omega),g,bC];show 5+0+4≤_;omega
 | dead t h=>rw[qU,yM];unfold dU nC;rw[af (by omega),af (by omega),af (by omega),ag h];show 5+0+4≤_;omega
 | ref t h =>
   have h1:=zX (sb t.sh) t.c t.r t.ac t.ar;rw[bC]at h1;rw[qU,yM];unfold dU nC;rw[af (by omega),af (by omega),ag h,dX];show _≤_+t.sh.size+_+60;omega
 | range t c u h hc g hs =>
   have h1:=zX (sb t.sh) t.c t.r t.ac t.ar;have h2:=zX (sb u.sh) u.c u.r u.ac u.ar;rw[bC]at h1 h2;rw[qU,qU,qU,yM,rZ hc,bC];unfold dU nC;rw[af (by omega),af (by omega),ag h,af (by omega),af (by omega),ag g,dX];show _+(1+_)+4≤_+t.sh.size+u.sh.size+60;omega
theorem aia {b:Bool}{base:Nat}{ns:List Nd}{ks:List Int}{ts:List ah}{qM d:Nat}(h:Sh b base ns ks ts qM d):(∀n∈ns,n.num≤9223372036854775807)→(iF ts).length+(if b=true then 0 else 4)≤qP ns:=by
 induction h with
 | leaf base ts nd h=>intro hm;rw[Ja];exact adD h (hm nd (by simp))
 | neg base ns a ts rk d h m hm d' ts' hw ih =>
   intro hn;have h1:=ih fun n hn'=>hn n (List.mem_append_left _ hn')
   have h2:=Ow hw;rw[af (by decide)]at h1 ⊢;rw[qU,rZ hm,Fv,Ja,bC];show 1+_+4≤_+nC _;unfold nC;omega
 | op base o ho ns ms a b ts us qd mO d1 d2 h g s hs e1 e2 ts' lg hw gw ih ky =>
   intro hn;have h1:=ih fun n hn'=>hn n (List.mem_append_left _ hn')
   have h2:=ky fun n hn'=>hn n (List.mem_append_right _ (List.mem_append_left _ hn'))
   have h3:=Ow hw;have h4:=Ow gw
   have h5:(j3.getD o ⟨#[]⟩).size≤2:=by
    have:∀o:Nat,o<11→(j3.getD o ⟨#[]⟩).size≤2:=by decide
    exact this o ho
   rw[af (by decide)]at h1 h2 ⊢;rw[BP,ax,qU,rZ hs,Fv,Fv,Ja,bC];unfold nC;omega
 | call base ns ks ts d h t x r ht h1 h2 hl hr ih =>
   intro hn;have g1:=ih fun n hn'=>hn n (List.mem_append_left _ hn')
   rw[ag rfl]at g1;rw[af (by decide),qU,qU,BP,ax,qU,rZ hl,rZ hr,Fv,Ja,yM,bC,bC];have:dU t=sb t.text:=by unfold dU;rw[ht];rfl
   rw[this,bC];unfold nC;show t.text.size+(1+(_+(1+0)))+4≤_+(2*t.text.size+_+_+60);omega
 | none base=>intro _;rw[ag rfl,yM];exact ek _
 | one base ns a ts rk d h ih =>
   intro hn;have:=ih hn;rw[af (by decide)]at this;rw[ag rfl];omega
 | and base ns ms ks b ts us rk d1 d2 h hk c hc g ih ky =>
   intro hn;have h1:=ih fun n hn'=>hn n (List.mem_append_left _ hn')
   have h2:=ky fun n hn'=>hn n (List.mem_append_right _ hn')
   rw[ag rfl]at h1;rw[af (by decide)]at h2;rw[ag rfl,BP,ax,qU,rZ hc,Fv,bC];show _+(1+_)+0≤_;omega
theorem UY {ns:List Nd}(h:dA ns=true)(hm:∀n∈ns,n.num≤9223372036854775807):(di ns).length+4≤qP ns:=by
 obtain⟨a,ts,rk,d,h1,h2⟩:=Jf h hm;rw[Dl h1 h];have:=aia h1 hm;rw[af (by decide)]at this;exact this
theorem Qj:∃j,Tryz.prog.info? 85=some j∧j.size=2:=by
 have h:(Tryz.prog.info? 85).map (·.size)=some 2:=by kernel_rfl
 obtain⟨j,h1,h2⟩:=Option.map_eq_some_iff.1 h;exact⟨j,h1,h2⟩
structure iM (w w':World)(b:Nat):Prop where
 os:w'.os=w.os
 tape:w'.tape=w.tape
 output:w'.output=w.output
 size:w.heap.size≤w'.heap.size
 block:∀k,k<w.heap.size→k≠b→(k<b∨∀cur fr,w.heap[k]? ≠ some (.cells cur 5 fr))→w'.heap[k]? = w.heap[k]?
theorem iM.refl(w:World)(b:Nat):iM w w b:=⟨rfl,rfl,rfl,aj _,fun _ _ _ _=>rfl⟩
theorem iM.trans {w w1 w2:World}{b:Nat}(h:iM w w1 b)(k:iM w1 w2 b):iM w w2 b :=
 ⟨k.os.trans h.os,k.tape.trans h.tape,k.output.trans h.output,bN h.size k.size,fun j hj hb hr=>by
  have h1:=h.block j hj hb hr;rw[k.block j (eB hj h.size) hb (hr.imp id fun hn cur fr=>by rw[h1];exact hn cur fr)];exact h1⟩
theorem iM.setCell {w:World}{b:Nat}(j:Nat)(v:Value):iM w (w.setCell ⟨b,j,none⟩ v) b :=
 have h:=grownBy.gU (grownBy.fT w (some b)) j v
 ⟨h.os,h.tape,h.output,h.size,fun k hk hkb _=>h.block k hk (fun e=>hkb (dM e))⟩
theorem iM.grown {w w':World}{b g:Nat}(h:w.grownBy w' (some g))(hg:∃cur fr,w.heap[g]? = some (.cells cur 5 fr))(hb:b<g):iM w w' b :=
 ⟨h.os,h.tape,h.output,h.size,fun k hk hkb hr=>h.block k hk (by
  intro e;injection e with e;subst e;rcases hr with hr|hr
  · omega
  · obtain⟨cur,fr,hx⟩:=hg;exact hr cur fr hx)⟩
theorem ahz {P:Program}{α : Type}{size t tx ty e bytes:Nat}{w:World}(df:Elem P t e size bytes)(E:Enc α size)(base:Nat)(v:Value)(xs:List α)(gQ:Own E e w base v xs)
 (x:Value) (m:Nat) (ys:List α) (hl:ys.length=m) (hs:Src P size tx x m (E.all ys) w) (hb:(xs.length+m)*bytes≤140737488355328) (hb2:xs.length+m≤maxLen) (jX:base≤w.heap.size) :
 ∃v' w',(Builtin.append_ #[t,tx] ty #[v,x]).run P w = .ok v' w'∧Own E e w' base v' (xs++ys)∧w.grownBy w' v.ownBlock:=by
 obtain⟨z,hi,hz⟩:=df.inf;obtain⟨i,hi1,hi2,hi3,hi4⟩:=info_parts hi;have ht:=df.und;subst hi3;subst hi4;have hlx:=E.mK xs;have Bc:=E.mK ys;rw[hl]at Bc;have hlen:(E.all (xs++ys)).length=(xs.length+m)*i.size:=by rw[E.mK,ax,hl]
 have L8:xs.length+m≤9223372036854775807:=by simp only[maxLen]at hb2;omega
 have grown:∀(old:Nat),old<xs.length+m →
  Own E e (w.drew.alloc (.cells ((E.all xs++E.all ys).toArray++Builtin.zeroCells z.cells (grownCap w (xs.length+m) old e - (xs.length+m))) e)) base (.slice (some ⟨w.heap.size,0,none⟩) (xs.length+m) (grownCap w (xs.length+m) old e)) (xs++ys) ∧
  ∀r,w.grownBy (w.drew.alloc (.cells ((E.all xs++E.all ys).toArray++Builtin.zeroCells z.cells (grownCap w (xs.length+m) old e - (xs.length+m))) e)) r:=by
  intro old ho;have hge:=grownCap_ge w (xs.length+m) old e;have hcm:grownCap w (xs.length+m) old e≤maxLen:=grownCap_le_maxLen w (xs.length+m) old e hb2;refine⟨?_,fun r=>grownBy.below' (grownBy.fT _ _) (((ak _ _).drew).alloc (aj _) _)⟩;unfold Own;rw[ax,hl];refine⟨hlen,.inr ⟨w.heap.size,_,_,rfl,jX,heap_alloc_new w.drew _,hge,hcm, ?_, ?_⟩⟩
  · simp only[Array.size_append,List.size_toArray,size_zeroCells,hz,ax,hlx,Bc, ← Nat.add_mul]
    congr 1;omega
  · simp only[Array.toList_append]
    rw[← E.all_append, ← hlen];exact List.take_left
 have h0:=gQ;rcases gQ.2 with ⟨rfl,hn⟩|⟨g,cap,cur,rfl,hbg,hg,hnc,hcm,hcs,EH⟩
 · have hx:xs=[]:=kM hn
   subst hx;by_cases hm:m=0
   · subst hm
     have hy:ys=[]:=kM hl;subst hy;refine⟨.slice none 0 0,w, ?_,Own.nil E e w base,grownBy.fT _ _⟩;have hc:=hs.cells;have hll:=hs.len;have hc':(Builtin.firstCells i.size 0 x).run P w = .ok #[] w:=hc
     rcases hs.kind with ⟨e',hk⟩|hk <;>
      simp[Builtin.append_,run_underlying ht,run_underlying hk,sizeOf,typeInfo,hi1,hll,hc']
   · have hgr:=grown 0 (by simp;omega)
     have hr:=run_append_grow_src (P:=P) w t tx ty e i z ht hi1 hi2 none 0 0 [] (by simp[Builtin.firstCells]) x m (E.all ys) hs (by omega) (by simp at L8;omega) (growslice_fits (by omega) (by simpa using hb));simp only[dX,Nat.zero_add,gX,Enc.all,List.flatMap_nil]at hgr hr ⊢;exact⟨_,_,hr,hgr.1,hgr.2 _⟩
 · by_cases Bg:xs.length+m≤cap
   · have A9:xs.length*i.size+(E.all ys).length≤cur.size:=by rw[Bc,hcs, ← Nat.add_mul];exact Nat.mul_le_mul_right _ Bg
     have hst:=run_storeCells_at P g (xs.length*i.size) e (E.all ys) 0 cur w hg (by omega) (E.xm ys);simp only[Nat.add_zero]at hst;refine⟨.slice (some ⟨g,0,none⟩) (xs.length+m) cap,w.setRow g (cur.toList.take (xs.length*i.size)++E.all ys++cur.toList.drop (xs.length*i.size+(E.all ys).length)).toArray, ?_, ?_, ?_⟩
     · rcases hs.kind with ⟨e',hk⟩|hk <;> simp[Builtin.append_,run_underlying ht,run_underlying hk,sizeOf,typeInfo,hi1,hs.len,Bg,hs.cells,Addr.add_lit,hst]
     · unfold Own
       rw[ax,hl];refine⟨hlen,.inr ⟨g,cap,_,rfl,hbg,setRow_heap w g cur _ e _ hg,Bg,hcm, ?_, ?_⟩⟩
       · simp only[List.size_toArray,ax,gW,lq,Array.length_toList]
         omega
       · rw[EH, ← hlen, ← E.all_append]
         exact List.take_left
     · exact⟨rfl,rfl,rfl,by simp,fun k hk hne=>setRow_other w g k _ (fun e=>hne (congrArg some e))⟩
   · have hold:(Builtin.firstCells i.size xs.length (.slice (some ⟨g,0,none⟩) xs.length cap)).run P w.drew = .ok (E.all xs).toArray w.drew :=
      run_firstCells_some w.drew i.size xs.length ⟨g,0,none⟩ xs.length cap (E.all xs) hlx (World.ownsRow.cells (w:=w.drew) h0 (g:=g) rfl)
     have hgr:=grown cap (by omega);have hr:=run_append_grow_src (P:=P) w t tx ty e i z ht hi1 hi2 (some ⟨g,0,none⟩) xs.length cap (E.all xs) hold x m (E.all ys) hs (by omega) (by omega) (growslice_fits (by omega) hb);exact⟨_,_,hr,hgr.1,hgr.2 _⟩
theorem Xl {P:Program}{α : Type}{size t tx e bytes:Nat}{w:World}{ops:Array Oper}{rest:List Oper}{o:Oper}{a:Act}{Q:Exit→Act→World→Prop}(df:Elem P t e size bytes)(E:Enc α size)
 (hgd:o.guard=none) (s x:Operand) (ho:o.op = .call { callee := .builtin .append,args:=#[s,x],argTypes:=#[t,tx] }) (base:Nat) (v:Value) (xs:List α)
 (hs:a.eval s=v) (gQ:Own E e w base v xs) (y:Value) (m:Nat) (ys:List α) (hx:a.eval x=y) (hl:ys.length=m) (L9:Src P size tx y m (E.all ys) w)
 (hb:(xs.length+m)*bytes≤140737488355328) (hb2:xs.length+m≤maxLen) (jX:base≤w.heap.size)
 (h:∀(v':Value)(w':World),Own E e w' base v' (xs++ys)→w.grownBy w' v.ownBlock→wpList P ops Q rest (a.put o.dst v') w'):wpList P ops Q (o :: rest) a w:=by
 obtain⟨v',w',rE,h2,h3⟩:=ahz (ty:=o.type) df E base v xs gQ y m ys hl L9 hb hb2 jX;refine wpList_plain hgd fun _ hK => ?_
 unfold Oper.wp execOp;simp only[ho,resolve,invoke,builtin,Sem.run_bind,Sem.run_pure,Result.andThen_ok,List.map_toArray,jr,List.map_nil,hs,hx,rE];exact hK _ _ (h v' w' h2 h3)
theorem M5 {w:World}{b:Nat}{v:Value}{xs:List Int}(h:qz w b v xs)(g:Nat)(hg:v.ownBlock=some g):b≤g∧∃cur fr,w.heap[g]? = some (.cells cur 5 fr):=by
 rcases h.2 with ⟨h1,_⟩|⟨g',qA,cur,h1,h2,h3,_⟩
 · rw[h1]at hg;cases hg
 · rw[h1]at hg
   have:g'=g:=dM hg;subst this;exact⟨h2,cur,_,h3⟩
theorem Ir {α : Type}{size:Nat}{E:Enc α size}{e:TypeId}{w:World}{b:Nat}{v:Value}{xs:List α}(h:Own E e w b v xs):∃ao n c,v = .slice ao n c:=by
 rcases h.2 with ⟨h1,_⟩|⟨g,cap,cur,h1,_⟩
 · exact⟨_,_,_,h1⟩
 · exact⟨_,_,_,h1⟩
theorem iM.own {w w':World}{b:Nat}{v:Value}{xs:List Int}(h:qz w (b+1) v xs)(hg:w.grownBy w' v.ownBlock):iM w w' b:=by
 cases hv:v.ownBlock with
 | none =>
   rw[hv]at hg;exact⟨hg.os,hg.tape,hg.output,hg.size,fun k hk _ _=>hg.block k hk (by simp)⟩
 | some g =>
   rw[hv]at hg;obtain⟨h1,h2⟩:=M5 h g hv;exact iM.grown hg h2 (by omega)
def il(w:World)(b:Nat)(nv wv ad bv:Value):Prop:=w.heap[b]? = some (.cells #[nv,wv,ad,bv] 87)
section
variable {w:World} {b:Nat} {nv wv ad bv:Value}
theorem il.lt(h:il w b nv wv ad bv):b<w.heap.size:=(dB.1 h).1
theorem il.facts (h:il w b nv wv ad bv):w.cell? ⟨b,0,none⟩=some nv∧w.cell? ⟨b,1,none⟩=some wv∧w.cell? ⟨b,2,none⟩=some ad∧w.cell? ⟨b,3,none⟩=some bv :=
 ⟨by rw[cell_of_row w b 0 _ _ _ h];rfl,by rw[cell_of_row w b 1 _ _ _ h];rfl,by rw[cell_of_row w b 2 _ _ _ h];rfl,by rw[cell_of_row w b 3 _ _ _ h];rfl⟩
theorem il.frozen(h:il w b nv wv ad bv)(j:Nat):w.frozen? ⟨b,j,none⟩=false:=frozen_of_row w b j _ _ h
theorem il.below{w':World}{B:Nat}(h:il w b nv wv ad bv)(hb:Below B w w')(hB:b<B):il w' b nv wv ad bv:=by unfold il;rw[hb.block b hB];exact h
theorem il.CZ(h:il w b nv wv ad bv)(v:Value):il (w.setCell ⟨b,1,none⟩ v) b nv v ad bv:=by unfold il;rw[heap_setCell_same w b 1 _ _ _ h];rfl
theorem il.qK(h:il w b nv wv ad bv)(v:Value):il (w.setCell ⟨b,2,none⟩ v) b nv wv v bv:=by unfold il;rw[heap_setCell_same w b 2 _ _ _ h];rfl
theorem il.Iz(h:il w b nv wv ad bv)(v:Value):il (w.setCell ⟨b,3,none⟩ v) b nv wv ad v:=by unfold il;rw[heap_setCell_same w b 3 _ _ _ h];rfl
theorem il.shape (h:il w b nv wv ad bv):w.shape? b=some (87,4):=by
 have h':w.heap[b]? = some (.cells #[nv,wv,ad,bv] 87):=h;simp[World.shape?,h']
end
theorem aaj (w:World)(b:Nat)(h0:w.cell? ⟨b,2,none⟩=some (.pointer (some ⟨b,2,none⟩))) :
 Calls Tryz.prog 99 #[.pointer (some ⟨b,2,none⟩)] w fun e w'=>e = .returned (.tuple #[])∧w=w':=by
 obtain⟨j,hj,_⟩:=Qj;go_enter Tryz.func99,Tryz.ntmps99;go_wp2_with fail
 rw[Lib.run_neq_ptr_same w _ Tryz.underlying83 hj];go_wp2_with fail
 go_end0;exact⟨rfl,rfl⟩
theorem aai (w:World)(b:Nat)(nv wv bv:Value)(h:il w b nv wv (.pointer none) bv) :
 Calls Tryz.prog 99 #[.pointer (some ⟨b,2,none⟩)] w fun e w'=>e = .returned (.tuple #[])∧w.setCell ⟨b,2,none⟩ (.pointer (some ⟨b,2,none⟩))=w':=by
 obtain⟨j,hj,hjs⟩:=Qj;obtain⟨-, -,h0, -⟩:=h.facts;have hfz:=h.frozen 2;have hsh:=h.shape;have ab3:liesAt Tryz.prog Tryz.prog.depth 87 (4 / Tryz.prog.cellsOf 87) 2 85 1=true:=by kernel_rfl
 go_enter Tryz.func99,Tryz.ntmps99;go_wp2_with fail
 rw[Lib.run_to_unsafe w ⟨b,2,none⟩ Tryz.underlying83 Tryz.underlying160 hj (by rw[hjs];decide) hsh (by show 2<4;omega)];simp only[Result.andThen];rw[Oper.upon_value];go_wp2_with fail
 rw[run_callFunc_extern Tryz.func132 (by kernel_rfl) (by kernel_rfl) (by kernel_rfl) (e:=Extern.AbiNoEscape.same) (by kernel_rfl)];rw[Lib.run_noEscape];simp only[Result.andThen];rw[Oper.upon_value];go_wp2_with fail
 rw[Lib.run_from_unsafe w ⟨b,2,none⟩ Tryz.underlying160 Tryz.underlying83 hj hsh ab3];simp only[Result.andThen];rw[Oper.upon_value];go_wp2_with fail
 go_end0;exact⟨rfl,rfl⟩
def lV(w:World)(b:Nat)(nv wv:Value)(txt:List Int):Prop:=∃ad bv,il w b nv wv ad bv∧(ad = .pointer none∨ad = .pointer (some ⟨b,2,none⟩))∧qz w (b+1) bv txt∧Bytes txt
theorem lV.lt{w:World}{b:Nat}{nv wv:Value}{txt:List Int}(h:lV w b nv wv txt):b<w.heap.size:=by obtain⟨_,_,h,_⟩:=h;exact h.lt
theorem lV.below {w w':World}{b:Nat}{nv wv:Value}{txt:List Int}(h:lV w b nv wv txt)(hb:Below w.heap.size w w'):lV w' b nv wv txt:=by
 have hl:=h.lt;obtain⟨ad,bv,h1,h2,h3,h4⟩:=h;exact⟨ad,bv,h1.below hb hl,h2,h3.below hb (aj _),h4⟩
theorem tL (w:World)(b:Nat)(nv wv:Value)(txt:List Int)(s:ByteArray)(h:lV w b nv wv txt)(hlen:txt.length+s.size≤10000000000) :
 Calls Tryz.prog 71 #[.pointer (some ⟨b,2,none⟩),.string s] w fun e w'=>(∃x,e = .returned (.tuple #[x,.nilIface]))∧lV w' b nv wv (txt++sb s)∧iM w w' b:=by
 have step:∀(ad bv:Value)(wc:World),il wc b nv wv ad bv→qz wc (b+1) bv txt→∀(v':Value)(w1:World),qz w1 (b+1) v' (txt++sb s)→wc.grownBy w1 bv.ownBlock→il w1 b nv wv ad bv∧iM wc w1 b:=by
  intro ad bv wc h1 h2 v' w1 _ hg;have hf:=iM.own h2 hg;refine⟨?_,hf⟩;unfold il;rw[hg.block b h1.lt (fun e=>by have:=M5 h2 b e.symm;omega)];exact h1
 have HST:=ae step;have hsm:s.size≤10000000000:=by omega
 obtain⟨ad,bv,hw,had,ho,hby⟩:=h;have xJ:=ae (hby.append (uS s));clear hby;clear step;rcases had with rfl|rfl
 · have JB:=ae (aai w b nv wv bv hw)
   have HW:=ae (hw.qK (.pointer (some ⟨b,2,none⟩)));have HO:=ae (Own.other ho (grownBy.gU (grownBy.fT w (some b)) 2 (.pointer (some ⟨b,2,none⟩))) (Nat.lt_succ_self b):qz (w.setCell ⟨b,2,none⟩ (.pointer (some ⟨b,2,none⟩))) (b+1) bv txt);have HF:=ae (iM.setCell (w:=w) (b:=b) 2 (.pointer (some ⟨b,2,none⟩)));clear hw ho;go_enter Tryz.func71,Tryz.ntmps71;go_upto_region 2 with (go_at_call 99;((with_reducible refine JB.o.mono ?_);rintro e w1 ⟨rfl,rfl⟩))
   generalize w.setCell ⟨b,2,none⟩ (.pointer (some ⟨b,2,none⟩))=w1 at HW HO HF ⊢;obtain⟨c0,c1,c2,c3⟩:=HW.o.facts;have hbz:=HW.o.lt;go_wp2_with (at_builtin;refine Xl Elem.u8 (aJ .u8) rfl (.tmp 12) (.tmp 13) rfl (b+1) _ _ rfl HO.o (.string s) s.size (sb s) rfl (bC s) (I7 s) ?_ ?_ ?_ ?_;omega;(unfold maxLen;omega);omega;intro v3 w3 h1 h2;obtain⟨vK,n3,c3',hv3⟩:=Ir h1;subst hv3;obtain⟨h3,h4⟩:=HST.o _ _ _ HW.o HO.o _ w3 h1 h2;have f3:=h3.frozen 3;obtain⟨y0,y1,y2,y3⟩:=h3.facts;have HW3:=ae (h3.Iz (.slice vK n3 c3'));have dY:=ae ((HF.o.trans h4).trans (iM.setCell 3 (.slice vK n3 c3')));have gm:=ae (Own.other h1 (grownBy.gU (grownBy.fT w3 (some b)) 3 (.slice vK n3 c3')) (Nat.lt_succ_self b):qz (w3.setCell ⟨b,3,none⟩ (.slice vK n3 c3')) (b+1) (.slice vK n3 c3') (txt++sb s));clear h1 h2 h3 h4 c0 c1 c2 c3)
   go_ret2
   exact⟨⟨_,rfl⟩,⟨_,_,HW3.o,.inr rfl,gm.o,xJ.o⟩,dY.o⟩
 · have JB:=ae (aaj w b hw.facts.2.2.1)
   have HW:=ae hw;have HO:=ae ho;have HF:=ae (iM.refl w b);clear hw ho;go_enter Tryz.func71,Tryz.ntmps71;go_upto_region 2 with (go_at_call 99;((with_reducible refine JB.o.mono ?_);rintro e w1 ⟨rfl,rfl⟩))
   obtain⟨c0,c1,c2,c3⟩:=HW.o.facts;have hbz:=HW.o.lt;go_wp2_with (at_builtin;refine Xl Elem.u8 (aJ .u8) rfl (.tmp 12) (.tmp 13) rfl (b+1) _ _ rfl HO.o (.string s) s.size (sb s) rfl (bC s) (I7 s) ?_ ?_ ?_ ?_;omega;(unfold maxLen;omega);omega;intro v3 w3 h1 h2;obtain⟨vK,n3,c3',hv3⟩:=Ir h1;subst hv3;obtain⟨h3,h4⟩:=HST.o _ _ _ HW.o HO.o _ w3 h1 h2;have f3:=h3.frozen 3;obtain⟨y0,y1,y2,y3⟩:=h3.facts;have HW3:=ae (h3.Iz (.slice vK n3 c3'));have dY:=ae ((HF.o.trans h4).trans (iM.setCell 3 (.slice vK n3 c3')));have gm:=ae (Own.other h1 (grownBy.gU (grownBy.fT w3 (some b)) 3 (.slice vK n3 c3')) (Nat.lt_succ_self b):qz (w3.setCell ⟨b,3,none⟩ (.slice vK n3 c3')) (b+1) (.slice vK n3 c3') (txt++sb s));clear h1 h2 h3 h4 c0 c1 c2 c3)
   go_ret2
   exact⟨⟨_,rfl⟩,⟨_,_,HW3.o,.inr rfl,gm.o,xJ.o⟩,dY.o⟩
theorem Z5:Tryz.prog.cellsOf 5=1:=by kernel_rfl
theorem ahO(s:ByteArray):sb s=s.data.toList.map fun x=>(x.toNat:Int):=rfl
theorem aiV (w:World)(b:Nat)(nv wv:Value)(txt:List Int)(h:lV w b nv wv txt)(hne:txt≠[]) :
 Calls Tryz.prog 50 #[.pointer (some ⟨b,2,none⟩)] w fun e w'=>e = .returned (.string (strOfNums txt))∧Below (b+1) w w':=by
 obtain⟨ad,bv,hw, -,ho,hby⟩:=h;obtain⟨s,hs⟩:∃s,strOfNums txt=s:=⟨_,rfl⟩;have hsb:sb s=txt:=by rw[← hs];exact jN txt hby
 rw[hs];obtain⟨l,hl⟩:∃l,s.data.toList=l:=⟨_,rfl⟩;have hls:(⟨l.toArray⟩:ByteArray)=s:=by rw[← hl]
 have htx:txt=l.map fun x=>(x.toNat:Int):=by rw[← hsb,ahO,hl]
 have hl0:l≠[]:=fun e=>hne (by rw[htx,e];rfl)
 have hlen:txt.length=l.length:=by rw[htx,eF]
 obtain⟨g,cap,cur,rfl,hbg,hg,hnc,hcm,hcs,EH⟩:=ho.2.resolve_left (fun h=>hl0 (List.length_eq_zero_iff.1 (by rw[← hlen];exact h.2)));have hlp:0<l.length:=List.length_pos_iff.2 hl0;have HO:=ho;rw[hlen]at hnc hw;have c3:w.cell? ⟨b,3,none⟩=some (.slice (some ⟨g,0,none⟩) l.length cap):=hw.facts.2.2.2
 have hSD:(Builtin.unsafeSliceData_ #[22] 125 #[.slice (some ⟨g,0,none⟩) l.length cap]).run Tryz.prog w.drew = .ok (.pointer (some ⟨g,0,none⟩)) w.drew :=
  Lib.run_unsafeSliceData_row _ _ _ _ _ _ (by omega)
 have hUS:(Builtin.unsafeString_ #[125,3] 9 #[.pointer (some ⟨g,0,none⟩),.int .i64 l.length]).run Tryz.prog w.drew = .ok (.string s) (w.drew.freeze ⟨g,0,none⟩ l.length):=by
  rw[← hls];refine Lib.run_unsafeString_row w.drew 125 3 9 5 Tryz.underlying125 Z5 g cur.size (by have hg':w.drew.heap[g]? = some (.cells cur 5):=hg;simp[World.shape?,hg']) l hl0 (by omega) (by unfold maxLen at hcm;omega) ?_;intro j x hx;have h1:(txt.map fun y=>Value.int .u8 y)[j]? = some (.int .u8 (x.toNat:Int)):=by rw[htx,List.map_map,gY,hx];rfl
  have h2:((aJ .u8).all txt)[j]? = some (.int .u8 (x.toNat:Int)):=by rw[wS];exact h1
  have:=Own.cells HO j _ h2
  simpa [Addr.add_mid]using this
 clear HO ho hby EH hcs htx hsb hl hls hs;go_enter Tryz.func50,Tryz.ntmps50;go_wp2_with fail
 go_region
 all_goals (go_wp2_with fail;go_ret;exact⟨rfl,Lib.below_freeze (Below.drew (ak (b+1) w)) (p:=⟨g,0,none⟩) hbg _⟩)
theorem Ng (k:Int)(w:World):Calls Tryz.prog 72 #[.int .i64 k] w fun e w'=>e = .returned (.int .i64 ((bM k:Nat)+1:Int))∧w=w':=by
 have fin:∀r:Nat,bM k=r→(Calls Tryz.prog 72 #[.int .i64 k] w fun e w'=>e = .returned (.int .i64 ((r:Int)+1))∧w=w')→Calls Tryz.prog 72 #[.int .i64 k] w fun e w'=>e = .returned (.int .i64 ((bM k:Nat)+1:Int))∧w=w':=fun r h1 h2=>by rw[h1];exact h2
 by_cases h9:k=9
 · refine fin 0 (by subst h9;rfl) ?_
   clear fin;subst h9;go_enter Tryz.func72,Tryz.ntmps72;go_wp2_with fail
   go_ret;exact⟨rfl,rfl⟩
 by_cases h10:k=10
 · refine fin 0 (by subst h10;rfl) ?_
   clear fin;subst h10;go_enter Tryz.func72,Tryz.ntmps72;go_wp2_with fail
   go_ret;exact⟨rfl,rfl⟩
 by_cases h11:k=11
 · refine fin 0 (by subst h11;rfl) ?_
   clear fin;subst h11;go_enter Tryz.func72,Tryz.ntmps72;go_wp2_with fail
   go_ret;exact⟨rfl,rfl⟩
 by_cases h12:k=12
 · refine fin 0 (by subst h12;rfl) ?_
   clear fin;subst h12;go_enter Tryz.func72,Tryz.ntmps72;go_wp2_with fail
   go_ret;exact⟨rfl,rfl⟩
 by_cases h13:k=13
 · refine fin 0 (by subst h13;rfl) ?_
   clear fin;subst h13;go_enter Tryz.func72,Tryz.ntmps72;go_wp2_with fail
   go_ret;exact⟨rfl,rfl⟩
 by_cases h14:k=14
 · refine fin 0 (by subst h14;rfl) ?_
   clear fin;subst h14;go_enter Tryz.func72,Tryz.ntmps72;go_wp2_with fail
   go_ret;exact⟨rfl,rfl⟩
 by_cases h15:k=15
 · refine fin 1 (by subst h15;rfl) ?_
   clear fin;subst h15;go_enter Tryz.func72,Tryz.ntmps72;go_wp2_with fail
   go_ret;exact⟨rfl,rfl⟩
 by_cases h16:k=16
 · refine fin 2 (by subst h16;rfl) ?_
   clear fin;subst h16;go_enter Tryz.func72,Tryz.ntmps72;go_wp2_with fail
   go_ret;exact⟨rfl,rfl⟩
 by_cases h17:k=17
 · refine fin 2 (by subst h17;rfl) ?_
   clear fin;subst h17;go_enter Tryz.func72,Tryz.ntmps72;go_wp2_with fail
   go_ret;exact⟨rfl,rfl⟩
 by_cases h18:k=18
 · refine fin 3 (by subst h18;rfl) ?_
   clear fin;subst h18;go_enter Tryz.func72,Tryz.ntmps72;go_wp2_with fail
   go_ret;exact⟨rfl,rfl⟩
 by_cases h19:k=19
 · refine fin 3 (by subst h19;rfl) ?_
   clear fin;subst h19;go_enter Tryz.func72,Tryz.ntmps72;go_wp2_with fail
   go_ret;exact⟨rfl,rfl⟩
 by_cases h8:k=8
 · refine fin 4 (by subst h8;rfl) ?_
   clear fin;subst h8;go_enter Tryz.func72,Tryz.ntmps72;go_wp2_with fail
   go_ret;exact⟨rfl,rfl⟩
 refine fin 5 (by unfold bM;rw[af (by omega),af h15,af (by omega),af (by omega),af h8]) ?_;have e8:(k == 8)=false:=aA.2 h8;have e9:(k == 9)=false:=aA.2 h9;have e10:(k == 10)=false:=aA.2 h10;have e11:(k == 11)=false:=aA.2 h11;have e12:(k == 12)=false:=aA.2 h12;have e13:(k == 13)=false:=aA.2 h13;have e14:(k == 14)=false:=aA.2 h14;have e15:(k == 15)=false:=aA.2 h15;have e16:(k == 16)=false:=aA.2 h16;have e17:(k == 17)=false:=aA.2 h17;have e18:(k == 18)=false:=aA.2 h18;have e19:(k == 19)=false:=aA.2 h19;clear fin h8 h9 h10 h11 h12 h13 h14 h15 h16 h17 h18 h19;go_enter Tryz.func72,Tryz.ntmps72;go_wp2_with fail
 go_ret;exact⟨rfl,rfl⟩
def nk(p:aD):Array Value:=#[.string p.t,.int .i64 p.node,.int .i64 p.least]
theorem agh (p:aD):∀u∈(nk p).toList,u.oneCell'=true:=by
 intro v hv;simp only[nk,ik,List.not_mem_nil,or_false]at hv;rcases hv with rfl|rfl|rfl <;> rfl
def pV:Enc aD 3:={ f:=fun p=>(nk p).toList,len:=fun _=>rfl,one:=agh }
theorem agi:(Tryz.prog.info? 90).map (·.size)=some 3:=by kernel_rfl
def jd(w:World)(b:Nat)(p:aD):Prop:=w.heap[b]? = some (.cells (nk p) 90)
theorem jd.new(w:World)(p:aD):jd (w.alloc (.cells (nk p) 90)) w.heap.size p:=(lu w _).1
theorem M4 {w:World}{b:Nat}{p:aD}(h:jd w b p)(fn:Func)(tmps:Array Value)(s:Tmp)(hf:fn.results=#[.cell s 90])(hp:tmps.getD s undef = .pointer (some ⟨b,0,none⟩)) :
 (results fn tmps).run Tryz.prog w = .ok (.agg (nk p)) w :=
 results_cell_row hf tmps w b _ _ _ _ hp h Tryz.underlying90 rfl agi
theorem jd.cells {w:World}{b:Nat}{p:aD}(h:jd w b p):w.cell? ⟨b,0,none⟩=some (.string p.t)∧w.cell? ⟨b,1,none⟩=some (.int .i64 p.node)∧w.cell? ⟨b,2,none⟩=some (.int .i64 p.least) :=
 ⟨by rw[cell_of_row w b 0 _ _ _ h];rfl,by rw[cell_of_row w b 1 _ _ _ h];rfl,by rw[cell_of_row w b 2 _ _ _ h];rfl⟩
theorem jd.bR{w:World}{b:Nat}{p:aD}(h:jd w b p):w.frozen? ⟨b,0,none⟩=false∧w.frozen? ⟨b,1,none⟩=false∧w.frozen? ⟨b,2,none⟩=false:=⟨frozen_of_row w b 0 _ _ h,frozen_of_row w b 1 _ _ h,frozen_of_row w b 2 _ _ h⟩
theorem jd.Iz {w:World}{b:Nat}{p0:aD}(h:jd w b p0)(p:aD):jd (((w.setCell ⟨b,0,none⟩ (.string p.t)).setCell ⟨b,1,none⟩ (.int .i64 p.node)).setCell ⟨b,2,none⟩ (.int .i64 p.least)) b p:=by
 have h1:(w.setCell ⟨b,0,none⟩ (.string p.t)).heap[b]? = some (.cells #[.string p.t,.int .i64 p0.node,.int .i64 p0.least] 90):=by rw[heap_setCell_same w b 0 _ _ _ h];rfl
 have h2:((w.setCell ⟨b,0,none⟩ (.string p.t)).setCell ⟨b,1,none⟩ (.int .i64 p.node)).heap[b]? = some (.cells #[.string p.t,.int .i64 p.node,.int .i64 p0.least] 90):=by rw[heap_setCell_same _ b 1 _ _ _ h1];rfl
 unfold jd;rw[heap_setCell_same _ b 2 _ _ _ h2];rfl
theorem jd.keep{w w':World}{b:Nat}{p:aD}(h:jd w b p)(hk:w'.heap[b]? = w.heap[b]?):jd w' b p:=by unfold jd;rw[hk];exact h
theorem iM.uO{w w':World}{b:Nat}(h:w.grownBy w' (some b)):iM w w' b:=⟨h.os,h.tape,h.output,h.size,fun k hk hkb _=>h.block k hk (fun e=>hkb (dM e))⟩
theorem Lg{a w:World}{r:Option Nat}{z:Nat}(h:a.grownBy w r)(hz:a.heap.size≤z)(v0 v1 v2:Value):a.grownBy (((w.setCell ⟨z,0,none⟩ v0).setCell ⟨z,1,none⟩ v1).setCell ⟨z,2,none⟩ v2) r:=grownBy.uV (grownBy.uV (grownBy.uV h ⟨z,0,none⟩ v0 hz) ⟨z,1,none⟩ v1 hz) ⟨z,2,none⟩ v2 hz
theorem ag6:Tryz.f73.results=#[.cell 2 90]:=by kernel_rfl
theorem ag5:Tryz.f47.results=#[.cell 4 90]:=by kernel_rfl
theorem ag7:Tryz.f49.results=#[.cell 2 90]:=by kernel_rfl
theorem af7 (t:ByteArray)(w:World):Calls Tryz.prog 73 #[.string t] w fun e w'=>e = .returned (.agg (nk (aD.plain t)))∧Below w.heap.size w w':=by
 have HN:=ae (jd.new w (aD.plain t));have HB:=ae ((ak w.heap.size w).alloc (aj _) (.cells (nk (aD.plain t)) 90));go_enter Tryz.func73,Tryz.ntmps73;go_wp2_with fail
 exact bodyPost_ret (M4 HN.o _ _ 2 ag6 rfl) rfl ⟨rfl,HB.o⟩
theorem afF (i m:Int)(w:World):Calls Tryz.prog 47 #[.int .i64 i,.int .i64 m] w fun e w'=>e = .returned (.agg (nk (aD.op i m)))∧Below w.heap.size w w':=by
 have HN:=ae (jd.new w (aD.op i m));have HB:=ae ((ak w.heap.size w).alloc (aj _) (.cells (nk (aD.op i m)) 90));go_enter Tryz.func47,Tryz.ntmps47;go_wp2_with fail
 exact bodyPost_ret (M4 HN.o _ _ 4 ag5 rfl) rfl ⟨rfl,HB.o⟩
def dW(w:World)(b:Nat)(nv:Value)(st:List aD)(txt:List Int):Prop:=∃wv,lV w b nv wv txt∧Own pV 90 w (b+1) wv st
theorem afP {α : Type}{size:Nat}{E:Enc α size}{e:TypeId}{w:World}{base g cap:Nat}{st:List α}(h:Own E e w base (.slice (some ⟨g,0,none⟩) st.length cap) st)(k:Nat)(hk:k≤st.length):Own E e w base (.slice (some ⟨g,0,none⟩) k cap) (st.take k):=by
 have hl:(st.take k).length=k:=by rw[gW];omega
 rcases h.2 with ⟨h1,_⟩|⟨g',qA,cur,h1,h2,h3,h4,h5,h6,h7⟩
 · cases h1
 · injection h1 with e1 e2 e3
   injection e1 with e1;injection e1 with e1;subst e1;subst e3;refine⟨by rw[Enc.mK],.inr ⟨g,cap,cur,by rw[hl],h2,h3,by omega,h5,h6, ?_⟩⟩;have h8:(cur.toList.take (st.length*size)).take (k*size)=(E.all st).take (k*size):=by rw[h7]
   rw[List.take_take,Nat.min_eq_left (Nat.mul_le_mul_right _ hk)]at h8;rw[hl,h8]
   conv=>lhs;rw[← List.take_append_drop k st,E.all_append]
   exact List.take_left' (by rw[E.mK,hl])
theorem af9 (w:World)(b:Nat)(nv:Value)(st:List aD)(p:aD)(txt:List Int)(h:dW w b nv (st++[p]) txt)(hlen:st.length≤10000000000) :
 Calls Tryz.prog 49 #[.pointer (some ⟨b,0,none⟩)] w fun e w'=>e = .returned (.agg (nk p))∧dW w' b nv st txt∧iM w w' b:=by
 obtain⟨wv,⟨ad,bv,hw,had,ho,hby⟩,hq⟩:=h;have hq0:=hq;obtain⟨g,cap,rfl,hbg,hgs,hnc,hcm⟩:=Own.some hq (by simp);have hlt:=hw.lt;have hn:(st++[p]).length=st.length+1:=by simp
 obtain⟨n,hst⟩:∃n,st.length=n:=⟨_,rfl⟩;have hx:(st++[p])[n]? = some p:=by rw[← hst];simp
 have k0:w.cell? ⟨g,n*3,none⟩=some (.string p.t):=Own.cells hq0 (n*3) _ (by have:=pV.at (st++[p]) n 0 p hx (by omega);rw[Nat.add_zero]at this;rw[this];rfl);have k1:w.cell? ⟨g,n*3+1,none⟩=some (.int .i64 p.node):=Own.cells hq0 (n*3+1) _ (by rw[pV.at (st++[p]) n 1 p hx (by omega)];rfl);have k2:w.cell? ⟨g,n*3+2,none⟩=some (.int .i64 p.least):=Own.cells hq0 (n*3+2) _ (by rw[pV.at (st++[p]) n 2 p hx (by omega)];rfl);rw[hn,hst]at hq0 hnc hw;have hg1:g<w.heap.size:=hgs;have hn9:n≤10000000000:=by omega
 have hi1:(0:Int)≤(n:Int):=by omega
 have hi2:(n:Int)<(n:Int)+1:=by omega
 have hi3:n≤cap:=by omega
 have hi4:(n:Int)≤(cap:Int):=by omega
 obtain⟨c0,c1,c2,c3⟩:=hw.facts;have hB1:Below w.heap.size w (w.alloc (.cells #[.string ⟨#[]⟩,.int .i64 0,.int .i64 0] 90)):=(ak _ _).alloc (aj _) _;have eY:=ae (show jd (w.alloc (.cells #[.string ⟨#[]⟩,.int .i64 0,.int .i64 0] 90)) w.heap.size (aD.plain ⟨#[]⟩)from jd.new w (aD.plain ⟨#[]⟩));have a1:=(hB1.cell (p:=⟨b,1,none⟩) hlt).trans c1;have j0:=(hB1.cell (p:=⟨g,n*3,none⟩) hg1).trans k0;have j1:=(hB1.cell (p:=⟨g,n*3+1,none⟩) hg1).trans k1;have j2:=(hB1.cell (p:=⟨g,n*3+2,none⟩) hg1).trans k2;have HB1:=ae hB1;have HW:=ae hw;have HO:=ae ho;have HQ:=ae hq;have xJ:=ae hby;have HST:=ae hst;clear hB1 c0 c1 c2 c3 k0 k1 k2 hq0 hx hn hst hw ho hq hby hlen;go_enter Tryz.func49,Tryz.ntmps49;go_upto_region 1 with (fail)
 generalize hz:w.heap.size=z at eY ⊢;have hwz:w.heap.size≤z:=Nat.le_of_eq hz;generalize (w.alloc (.cells #[.string ⟨#[]⟩,.int .i64 0,.int .i64 0] 90))=w1 at eY HB1 a1 j0 j1 j2 ⊢;clear hz;have XO:=eY;go_upto_region 2 with (fail)
 have hB2:Below w1.heap.size w1 (w1.alloc (.cells #[.string p.t,.int .i64 p.node,.int .i64 p.least] 90)):=(ak _ _).alloc (aj _) _;have dm:jd (w1.alloc (.cells #[.string p.t,.int .i64 p.node,.int .i64 p.least] 90)) w1.heap.size p:=jd.new w1 p;have hb1:b<w1.heap.size:=eB hlt HB1.o.size;have a2:=(hB2.cell (p:=⟨b,1,none⟩) hb1).trans a1;have HB2:=ae (HB1.o.trans (hB2.mono HB1.o.size))
 have HZ2:=ae (show jd (w1.alloc (.cells #[.string p.t,.int .i64 p.node,.int .i64 p.least] 90)) z (aD.plain ⟨#[]⟩)from by
  unfold jd;rw[hB2.block z (dB.1 eY.o).1];exact eY.o)
 clear hB2;go_upto_region 3 with (fail)
 generalize hq2:w1.heap.size=q at dm ⊢;generalize w1.alloc (.cells #[.string p.t,.int .i64 p.node,.int .i64 p.least] 90)=w2 at dm HB2 HZ2 a2 ⊢;have hb2:b<w2.heap.size:=eB hlt HB2.o.size;have HW2:=ae (HW.o.below HB2.o hlt);have f1:=HW2.o.frozen 1;clear a1 j0 j1 j2;go_upto_region 4 with (fail)
 have HW3:=ae (HW2.o.CZ (.slice (some ⟨g,0,none⟩) n cap));have GY:q≠b:=by have:=HB1.o.size;omega
 have hzb:z≠b:=by omega
 have hzq:z≠q:=by have:=(dB.1 XO.o).1;omega
 have bg:=dm.keep (gy w2 ⟨b,1,none⟩ (.slice (some ⟨g,0,none⟩) n cap) q GY);have HZ3:=HZ2.o.keep (gy w2 ⟨b,1,none⟩ (.slice (some ⟨g,0,none⟩) n cap) z hzb);have fK:=ae (grownBy.gU (grownBy.below' (grownBy.fT w (some b)) HB2.o) 1 (.slice (some ⟨g,0,none⟩) n cap));generalize w2.setCell ⟨b,1,none⟩ (.slice (some ⟨g,0,none⟩) n cap)=w3 at HW3 bg HZ3 fK ⊢;obtain⟨y0,y1,y2⟩:=bg.cells;obtain⟨z0,z1,z2⟩:=HZ3.bR;obtain⟨u0,u1,u2⟩:=HZ3.cells;have YU:=ae (HZ3.Iz p);have oO:=ae (Lg fK.o hwz (.string p.t) (.int .i64 p.node) (.int .i64 p.least))
 have xW:=ae (show il (((w3.setCell ⟨z,0,none⟩ (.string p.t)).setCell ⟨z,1,none⟩ (.int .i64 p.node)).setCell ⟨z,2,none⟩ (.int .i64 p.least)) b nv (.slice (some ⟨g,0,none⟩) n cap) ad bv from by
  unfold il;rw[gy _ ⟨z,2,none⟩ _ b (fun e=>hzb e.symm),gy _ ⟨z,1,none⟩ _ b (fun e=>hzb e.symm),gy _ ⟨z,0,none⟩ _ b (fun e=>hzb e.symm)];exact HW3.o)
 clear bg HZ3 f1;go_wp2_with fail
 have Sb:=afP HQ.o st.length (by simp);rw[List.take_left,HST.o]at Sb;exact bodyPost_ret (M4 YU.o _ _ 2 ag7 rfl) rfl ⟨rfl,⟨_,⟨ad,bv,xW.o,had,Own.other HO.o oO.o (Nat.lt_succ_self b),xJ.o⟩,Own.other Sb oO.o (Nat.lt_succ_self b)⟩,iM.uO oO.o⟩
end Go.Proofs.YtbplbjmmfgjdjaaGreatDoor
namespace Go.Proofs.YtbplbjmmfgjdjaaGreatDoor
open Go.RowKit Go.Shelf
attribute [local go_sem] Oper.semAt_some
def vR(ps:List aD)(q:Nat):List (Nat × aD):=(List.range (ps.length - q)).map fun j=>(ps.length - 1 - j,ps.getD (ps.length - 1 - j) (aD.plain ⟨#[]⟩))
theorem Qq(ps:List aD):vR ps ps.length=[]:=by unfold vR;simp
theorem Qr (ps:List aD)(m:Nat)(p:aD)(hp:ps[m]? = some p):vR ps m=vR ps (m+1)++[(m,p)]:=by
 have hl:=(eQ.1 hp).1;unfold vR;rw[show ps.length - m=(ps.length - (m+1))+1 by omega,List.range_succ,iL];show _++[(ps.length - 1 - (ps.length - (m+1)),_)]=_;rw[show ps.length - 1 - (ps.length - (m+1))=m by omega,kg,hp];rfl
theorem ZT(ps:List aD)(q:Nat):(vR ps q).length=ps.length - q:=by unfold vR;simp
theorem Zj (F:Fence)(n:Nat)(h7:F.fn 98)(hro:F.round=none)(hn:1≤n)(l Bs b cap:Nat)(ps:List aD)(hlen:ps.length≤1000000000)(J Jx:List (Nat × aD)→World→Prop)
 (hY:∀pre x W,J pre W→pre.length<ps.length→YieldAt F (n - 1) Tryz.prog l #[.int .i64 (x.1:Int),.agg (nk x.2)] W fun e W' =>
   (e = .returned (.bool true)∧J (pre++[x]) W'∧jB Bs b W W')∨(e = .returned (.bool false)∧Jx (pre++[x]) W'))
 (W:World) (rA:W.cell? ⟨Bs,0,none⟩=some (.slice (some ⟨b,0,none⟩) ps.length cap)) (hc:∀m p,ps[m]? = some p→W.cell? ⟨b,m*3,none⟩=some (.string p.t)∧W.cell? ⟨b,m*3+1,none⟩=some (.int .i64 p.node)∧W.cell? ⟨b,m*3+2,none⟩=some (.int .i64 p.least)) (h0:J [] W) :
 CallsIn F n Tryz.prog 98 #[.func (.yield l) #[] #[],.pointer (some ⟨Bs,0,none⟩)] W fun e W'=>(∃v,e = .returned v) ∧
  ((∃ys,ys=vR ps 0∧J ys W')∨(∃pre,True∧Jx pre W')):=by
 obtain⟨L,hL⟩:∃L,ps.length=L:=⟨_,rfl⟩;have HL:=ae hL;rw[hL]at hlen rA;refine callsIn_of_wp Tryz.func98 rfl h7 ?_ hro;simp only[Tryz.ntmps98,List.size_toArray,bf,dX,Nat.reduceAdd,Nat.reduceSub,Array.replicate_succ,Array.replicate_zero,List.push_toArray,List.append_toArray,gX,dE];gi_wp2
 gi_loopw [3] (fun i wr=>∃q:Nat,q≤L∧i = .int .i64 ((q:Int) - 1)∧J (vR ps q) wr∧jB Bs b W wr)
  (fun i _=>(intOf i+1).toNat)
 case atStart=>exact⟨L,aj _,rfl,by rw[← hL,Qq];exact h0,jB.refl _ _ _⟩
 case round =>
  obtain⟨q,hq,rfl,hJs,hnx⟩:=hrel;have Rj:=(hnx.KT 0).trans rA;cases q with
  | zero =>
    gi_wp2
    go_end0;exact⟨⟨_,rfl⟩,.inl ⟨_,rfl,hJs⟩⟩
  | succ m =>
    obtain⟨p,hp⟩:∃p,ps[m]? = some p:=⟨_,cZ (by omega)⟩;obtain⟨c0,c1,c2⟩:=hc m p hp;have d0:=(hnx.wW (m*3)).trans c0;have d1:=(hnx.wW (m*3+1)).trans c1;have d2:=(hnx.wW (m*3+2)).trans c2;have hst:=Qr ps m p hp;obtain⟨fn,tmps,assign,body,hy,hR⟩:=hY _ (m,p) wr hJs (by rw[ZT];omega);rw[← hst]at hR;dsimp only[nk]at hy;have hm1:((m+1:Nat):Int) - 1=(m:Int):=by omega
    rw[hm1];have RV:(m:Int)<(L:Int):=by omega
    have hm0:(0:Int)≤(m:Int):=by omega
    clear hm1 c0 c1 c2 hc hJs hst;gi_wp2
    refine hR.mono ?_;rintro e W3 (⟨rfl,hJ3,hk3⟩|⟨rfl,Eo⟩)
    · gi_wp2
      go_roundw
      case rel=>exact⟨m,by omega,by simp,hJ3,hnx.trans hk3⟩
      case measure=>simp[intOf]
    · gi_wp2
      refine bodyPost_ret (results_none rfl _ _ _) rfl ?_;exact⟨⟨_,rfl⟩,.inr ⟨_,trivial,Eo⟩⟩
theorem Zr (F:Fence)(n:Nat)(h5:F.fn 70)(hro:F.round=none)(a:Option Addr)(len cap:Nat)(w:World) :
 CallsIn F n Tryz.prog 70 #[.slice a len cap] w fun e w'=>e = .returned (.func (.func 98) #[] #[.pointer (some ⟨w.heap.size,0,none⟩)])∧w.alloc (.cells #[.slice a len cap] 82)=w':=by
 refine callsIn_of_wp Tryz.func70 rfl h5 ?_ hro;simp only[Tryz.ntmps70,List.size_toArray,bf,dX,Nat.reduceAdd,Nat.reduceSub,Array.replicate_succ,Array.replicate_zero,List.push_toArray,List.append_toArray,gX,dE];gi_wp2
 go_ret;exact⟨rfl,rfl⟩
theorem Zo (F:Fence)(n:Nat)(h7:F.fn 98)(hro:F.round=none)(hn:1≤n)(Bs b cap:Nat)(ps:List aD)(hlen:ps.length≤1000000000)(w:World)(hB:Bs<w.heap.size)(hb:b<w.heap.size)
 (rA:w.cell? ⟨Bs,0,none⟩=some (.slice (some ⟨b,0,none⟩) ps.length cap)) (hc:∀m p,ps[m]? = some p→w.cell? ⟨b,m*3,none⟩=some (.string p.t)∧w.cell? ⟨b,m*3+1,none⟩=some (.int .i64 p.node)∧w.cell? ⟨b,m*3+2,none⟩=some (.int .i64 p.least)) :
 SeqStopsK F n Tryz.prog 98 #[.pointer (some ⟨Bs,0,none⟩)] (fun x:Nat × aD=>#[Value.int .i64 (x.1:Int),.agg (nk x.2)]) (jB Bs b) (fun ys=>ys=vR ps 0) (fun _=>True) ps.length w:=fun l J Jx W hW _ _ hY h0 =>
 Zj F n h7 hro hn l Bs b cap ps hlen J Jx hY W ((hW.cell hB).trans rA) (fun m p hp=>by
  obtain⟨c0,c1,c2⟩:=hc m p hp;exact⟨(hW.cell (p:=⟨b,m*3,none⟩) hb).trans c0,(hW.cell (p:=⟨b,m*3+1,none⟩) hb).trans c1,(hW.cell (p:=⟨b,m*3+2,none⟩) hb).trans c2⟩) h0
theorem ZU:∀(ps:List aD)(q:Nat),q≤ps.length→(vR ps q).map (·.2)=(ps.drop q).reverse:=by
 intro ps q
 induction h:ps.length - q generalizing q with
 | zero =>
   intro hq;have:q=ps.length:=by omega
   subst this;rw[Qq,List.drop_length];rfl
 | succ d ih =>
   intro hq;obtain⟨p,hp⟩:∃p,ps[q]? = some p:=⟨_,cZ (by omega)⟩;have hl:=(eQ.1 hp).1;rw[Qr ps q p hp,iL,ih (q+1) (by omega) (by omega),List.drop_eq_getElem_cons hl,List.reverse_cons];have:ps[q]=p:=by rw[cZ hl]at hp;exact dM hp
   rw[this];rfl
end Go.Proofs.YtbplbjmmfgjdjaaGreatDoor
namespace Go.Proofs.YtbplbjmmfgjdjaaGreatDoor
open Go.RowKit Go.Shelf
attribute [local go_sem] Oper.semAt_some
variable {txt:List Int}{b:Nat}{A B w:World}
structure bI (w w':World)(b:Nat):Prop where
 os:w'.os=w.os
 tape:w'.tape=w.tape
 output:w'.output=w.output
 size:w.heap.size≤w'.heap.size
 block:∀k,k<w.heap.size→k≠b→(k<b∨∀cur fr,w.heap[k]? ≠ some (.cells cur 5 fr)∧w.heap[k]? ≠ some (.cells cur 90 fr))→w'.heap[k]? = w.heap[k]?
theorem bI.refl(w:World)(b:Nat):bI w w b:=⟨rfl,rfl,rfl,aj _,fun _ _ _ _=>rfl⟩
theorem bI.trans {w1 w2:World}(h:bI w w1 b)(k:bI w1 w2 b):bI w w2 b :=
 ⟨k.os.trans h.os,k.tape.trans h.tape,k.output.trans h.output,bN h.size k.size,fun j hj hb hr=>by
  have h1:=h.block j hj hb hr;rw[k.block j (eB hj h.size) hb (hr.imp id fun hn cur fr=>by rw[h1];exact hn cur fr)];exact h1⟩
theorem bI.uO{w':World}(h:iM w w' b):bI w w' b:=⟨h.os,h.tape,h.output,h.size,fun k hk hb hr=>h.block k hk hb (hr.imp id fun hn cur fr=>(hn cur fr).1)⟩
theorem bI.iP{w':World}(h:Below w.heap.size w w'):bI w w' b:=⟨h.os,h.tape,h.output,h.size,fun k hk _ _=>h.block k hk⟩
theorem bI.stay {row:Option Nat}(h:bI w A b)(hg:A.grownBy B row)(hr:∀r,row=some r→w.heap.size≤r):bI w B b :=
 ⟨hg.os.trans h.os,hg.tape.trans h.tape,hg.output.trans h.output,bN h.size hg.size,fun k hk hb h1=>by
  rw[hg.block k (eB hk h.size) (fun e=>by have:=hr k e.symm;omega)];exact h.block k hk hb h1⟩
theorem zt {row:Option Nat}(hg:A.grownBy B row)(hr:∀r,row=some r→∃o:Obj,A.heap[r]? = some o∧o.isCells=false){x:Nat}{cs:Array Value}{t:TypeId}{fr:Nat × Nat}(h:A.heap[x]? = some (.cells cs t fr)):B.heap[x]? = some (.cells cs t fr):=by
 rw [hg.block x (dB.1 h).1 (fun e=>by
  obtain⟨o,ho,hc⟩:=hr x e.symm;rw[h]at ho;cases ho;cases hc)]
 exact h
theorem Im {α : Type}{size:Nat}{E:Enc α size}{e:TypeId}{base:Nat}{v:Value}{xs:List α}(h:Own E e A base v xs){row:Option Nat}(hg:A.grownBy B row)(hr:∀r,row=some r→∃o:Obj,A.heap[r]? = some o∧o.isCells=false):Own E e B base v xs:=by
 refine⟨h.1, ?_⟩;rcases h.2 with h|⟨g,cap,cur,h1,h2,h3,h4⟩
 · exact .inl h
 · exact .inr ⟨g,cap,cur,h1,h2,zt hg hr h3,h4⟩
theorem lV.stay {nv wv:Value}(h:lV A b nv wv txt){row:Option Nat}(hg:A.grownBy B row)(hr:∀r,row=some r→∃o:Obj,A.heap[r]? = some o∧o.isCells=false):lV B b nv wv txt:=by
 obtain⟨ad,bv,h1,h2,h3,h4⟩:=h;exact⟨ad,bv,zt hg hr h1,h2,Im h3 hg hr,h4⟩
def Cn (w:World)(b:Nat)(nv:Value)(st:List aD)(txt:List Int)(lb:Nat)(pre:List (Nat × aD))(W:World):Prop :=
 (∃wv,lV W b nv wv txt∧Own pV 90 W (b+1) wv (st++pre.map (·.2))∧wv.ownBlock≠some lb)∧Boxed W w.heap.size 81 (.pointer (some ⟨b,0,none⟩))∧W.heap[lb]? = w.heap[lb]?
theorem Cn.below {nv:Value}{st:List aD}{lb:Nat}{pre:List (Nat × aD)}{W W':World}(h:Cn w b nv st txt lb pre W)(hb:Below W.heap.size W W')(hl:lb<W.heap.size):Cn w b nv st txt lb pre W':=by
 obtain⟨⟨wv,h1,h2,h3⟩,h4,h5⟩:=h;have h4':W.heap[w.heap.size]? = some (.cells #[.pointer (some ⟨b,0,none⟩)] 81):=h4;exact⟨⟨wv,h1.below hb,h2.below hb (aj _),h3⟩,(show W'.heap[w.heap.size]? = _ from(hb.block _ (dB.1 h4').1).trans h4'),(hb.block lb hl).trans h5⟩
theorem agk {nv:Value}{st:List aD}{lb:Nat}{cs:Array Value}{fr:Nat × Nat}(hlb:w.heap[lb]? = some (.cells cs 90 fr))(B:Nat):OwnFrom B (Cn w b nv st txt lb):=by
 rintro pre X Y row ⟨⟨wv,h1,h2,h3⟩,h4,h5⟩ hg hr;have hr2:∀r,row=some r→∃o:Obj,X.heap[r]? = some o∧o.isCells=false:=fun r e=>(hr r e).2
 refine⟨⟨wv,lV.stay h1 hg hr2,Im h2 hg hr2,h3⟩,boxed_own w.heap.size 81 (fun (_:Unit)=>Value.pointer (some ⟨b,0,none⟩)) () X Y row h4 hg hr2, ?_⟩;rw[zt hg hr2 (h5.trans hlb)];exact hlb.symm
end Go.Proofs.YtbplbjmmfgjdjaaGreatDoor
namespace Go.Proofs.YtbplbjmmfgjdjaaGreatDoor
open Go.RowKit
variable {P:Program} {ops:Array Oper} {md:Region.Mode} {l n:Nat}
def Gg(N:Act→World→Prop):Exit→Act→World→Prop:=fun e a w=>e = .normal∧N a w
theorem U9 (N:Act→World→Prop):¬ LetsOut (Gg N):=by
 rintro⟨a,w,h,_⟩;cases h
theorem ahs {row:String}{args:Array Value}{w:World}{R:Value→World→Prop}(h:Rows P row args w R):RowsIn (Fence.wide.inRound l) n P row args w R:=fun c cs _=>by
 obtain⟨v,w',r,s⟩:=h c cs;exact⟨v,w',r,stepsIn_wide.2 s⟩
theorem ajI {o:Oper}{a:Act}{K K':Act→World→Prop}(hK:∀a w,K a w→K' a w){Q:Exit→Act→World→Prop}{r:Result Next}(h:o.upon P a K (Gg (Q .normal)) r):o.uponIn (Fence.wide.inRound l) n P a K' Q r:=by
 unfold Oper.upon at h;split at h
 · exact hK _ _ h
 · exact hK _ _ h
 · exact hK _ _ h
 · refine⟨fun hd=>(by cases hd),CallsIn.inRound l ((callsIn_wide.2 h).mono ?_)⟩
   rintro e w' he;cases e with
   | returned v=>exact hK _ _ he
   | panicked c=>exact absurd he.1 (by intro h;cases h)
   | outgrown=>exact absurd he (U9 _)
 · exact⟨fun hd=>(by cases hd),(ahs h).mono fun v w' hv=>hK _ _ hv⟩
 · exact absurd h.1 (by intro h;cases h)
 · exact h.elim
theorem Gr {Q:Exit→Act→World→Prop}(hnd:∀(i:Nat)(o:Oper),ops[i]? = some o→∀c,o.op ≠ .defer c):∀(fuel:Nat)(listed:Array Bool)(a:Act)(w:World),wpAny P md ops (Gg (Q .normal)) fuel listed a w→wpAnyIn (Fence.wide.inRound l) n P md ops Q fuel listed a w
 | 0,_,_,_,h=>⟨h.1,h.2.2⟩
 | fuel + 1,listed,a,w,h=>by
   refine⟨fun hr=>(h.1 hr).2,fun i hi => ?_⟩;have hs:=h.2 i hi;unfold wpOp at hs;unfold wpOpIn;cases ho:ops[i]? with
   | none=>rw[ho]at hs;exact Gr hnd fuel _ _ _ hs
   | some o =>
     rw[ho]at hs;simp only at hs ⊢;by_cases hw:Region.wanted o (yielded ops a.tmps)=true
     · rw[ag hw]at hs ⊢
       have hs:=hs.resolve_right (fun hx=>U9 _ hx.2);refine⟨fun _ _=>trivial, ?_⟩;rw[Oper.semAt_eq _ _ _ (hnd i o ho)];exact ajI (fun a' w' h'=>Gr hnd fuel _ a' w' h') hs
     · rw[af hw]at hs ⊢
       exact⟨fun _ _=>trivial,Gr hnd fuel _ _ _ hs⟩
def MO(ops:Array Oper):Bool:=ops.toList.all fun o=>match o.op with | .defer _=>false|_=>true
theorem afc {ops:Array Oper}(h:MO ops=true)(i:Nat)(o:Oper)(ho:ops[i]? = some o):∀c,o.op ≠ .defer c:=by
 intro c e;unfold MO at h;rw[List.all_eq_true]at h;have h2:=h o (by rw[← Array.getElem?_toList]at ho;exact fe ho);rw[e]at h2;cases h2
theorem Nl {Q:Exit→Act→World→Prop}{id:Nat}{a:Act}{w:World}(hm:P.follows .mixedOrders=true)(hnd:MO ops=true)
 (h:wpAny P .any ops (Gg (Q .normal)) ops.size (Array.replicate ops.size false) a w.drew):(Code.region id ops true).wpIn (Fence.wide.inRound l) n P Q a w :=
 wpIn_region_any hm (Gr (fun i o ho=>afc hnd i o ho) _ _ _ _ h)
end Go.Proofs.YtbplbjmmfgjdjaaGreatDoor
namespace Go.Proofs.YtbplbjmmfgjdjaaGreatDoor
open Go.RowKit Go.Shelf
attribute [local go_sem] Oper.semAt_some
theorem Elem.part:Elem Tryz.prog 82 90 3 32:=⟨Tryz.underlying82,⟨.agg #[.string ⟨#[]⟩,.int .i64 0,.int .i64 0],by kernel_rfl,rfl⟩,by decide⟩
theorem Zf {P:Program}{α : Type}{size t e bytes:Nat}{w:World}(ty:TypeId)(df:Elem P t e size bytes)(E:Enc α size)(base:Nat)(v:Value)(xs:List α)(gQ:Own E e w base v xs)(ad:Addr)(m c:Nat)(ys:List α)(hl:ys.length=m)
 (hc:∀(j:Nat)(u:Value),(E.all ys)[j]? = some u→w.cell? (ad.add j)=some u) (hb:(xs.length+m)*bytes≤140737488355328) (hb2:xs.length+m≤maxLen) (jX:base≤w.heap.size) :
 ∃v' w',(Builtin.append_ #[t,t] ty #[v,.slice (some ad) m c]).run P w = .ok v' w'∧Own E e w' base v' (xs++ys)∧w.grownBy w' v.ownBlock∧(v'.ownBlock=v.ownBlock∨v'.ownBlock=some w.heap.size):=by
 obtain⟨z,hi,hz⟩:=df.inf;obtain⟨i,hi1,hi2,hi3,hi4⟩:=info_parts hi;obtain⟨v',w',rE,r1,r2,_,r4⟩:=run_append_own_at (P:=P) w base t ty e i z size bytes df.und hi1 hi2 hi3 hi4 hz df.pos v xs.length (E.all xs) gQ ad m c (E.all ys) (by rw[E.mK,hl]) hc (E.xm ys) hb2 hb jX;refine⟨v',w',rE, ?_,r2,r4⟩;unfold Own;rw[E.all_append,ax,hl];exact r1
theorem Xn {P:Program}{t:TypeId}{w w':World}{o:Oper}{a:Act}{K:Act→World→Prop}{Q:Exit→Act→World→Prop}{v x v':Value}(s y:Operand)(ho:o.op = .call { callee := .builtin .append,args:=#[s,y],argTypes:=#[t,t] })(hs:a.eval s=v)(hx:a.eval y=x)
 (rE:(Builtin.append_ #[t,t] o.type #[v,x]).run P w = .ok v' w') (h:K (a.put o.dst v') w'):Oper.wp P o a w K Q:=by
 unfold Oper.wp;simp[execOp,ho,resolve,invoke,builtin,hs,hx,rE,Result.andThen];exact h
theorem agl (w:World)(b:Nat)(nv:Value)(st ps:List aD)(txt:List Int)(lb cap:Nat)(h:dW w b nv st txt)(hps:Own pV 90 w 0 (.slice (some ⟨lb,0,none⟩) ps.length cap) ps)(hne:∀wv,lV w b nv wv txt→wv.ownBlock≠some lb)(hl1:ps.length≤1000000)(hl2:st.length≤2000000000) :
 Calls Tryz.prog 46 #[.pointer (some ⟨b,0,none⟩),.slice (some ⟨lb,0,none⟩) ps.length cap] w fun e w'=>e = .returned (.tuple #[])∧dW w' b nv (st++ps.reverse) txt∧bI w w' b:=by
 obtain⟨wv,hws,hq⟩:=h;have hwb:=hws.lt
 have hlt:lb<w.heap.size:=by
  rcases hps.2 with ⟨h1,_⟩|⟨g',qA,cur,h1,_,h3,_⟩
  · cases h1
  · injection h1 with e1;injection e1 with e1;injection e1 with e1;subst e1;exact(dB.1 h3).1
 refine(callsIn_wide (n:=6)).1 ?_;refine callsIn_of_wp_marks Tryz.func46 rfl trivial ?_ rfl;simp only[Tryz.ntmps46,List.size_toArray,bf,dX,Nat.reduceAdd,Nat.reduceSub,Array.replicate_succ,Array.replicate_zero,List.push_toArray,List.append_toArray,gX,dE]
 gi_wp2_with (refine⟨trivial, ?_⟩;gi_at_call 70;refine(Zr Fence.wide _ trivial rfl _ _ _ _).mono ?_;rintro e w' ⟨rfl,rfl⟩)
 have zm:=(Boxed.new w 81 (.pointer (some ⟨b,0,none⟩))).alloc (.cells #[.slice (some ⟨lb,0,none⟩) ps.length cap] 82);have vL:=Boxed.new (w.alloc (.cells #[.pointer (some ⟨b,0,none⟩)] 81)) 82 (.slice (some ⟨lb,0,none⟩) ps.length cap);simp only[lQ]at vL;have hB0:Below w.heap.size w ((w.alloc (.cells #[.pointer (some ⟨b,0,none⟩)] 81)).alloc (.cells #[.slice (some ⟨lb,0,none⟩) ps.length cap] 82)):=((ak _ w).alloc (aj _) _).alloc (by simp) _;have hsz:((w.alloc (.cells #[.pointer (some ⟨b,0,none⟩)] 81)).alloc (.cells #[.slice (some ⟨lb,0,none⟩) ps.length cap] 82)).heap.size=w.heap.size+2:=by simp
 obtain⟨W0,hW0⟩:∃W0,(w.alloc (.cells #[.pointer (some ⟨b,0,none⟩)] 81)).alloc (.cells #[.slice (some ⟨lb,0,none⟩) ps.length cap] 82)=W0:=⟨_,rfl⟩;rw[hW0]at zm vL hB0 hsz ⊢;clear hW0
 obtain ⟨lcs,lfr,RU⟩:∃cs fr,w.heap[lb]? = some (.cells cs 90 fr):=by
  rcases hps.2 with ⟨h1,_⟩|⟨g',qA,cur,h1,_,h3,_⟩
  · cases h1
  · injection h1 with e1;injection e1 with e1;injection e1 with e1;subst e1;exact⟨_,_,h3⟩
 have hcell:∀m p,ps[m]? = some p→w.cell? ⟨lb,m*3,none⟩=some (.string p.t)∧w.cell? ⟨lb,m*3+1,none⟩=some (.int .i64 p.node)∧w.cell? ⟨lb,m*3+2,none⟩=some (.int .i64 p.least):=fun m p hp =>
  ⟨Own.cells hps (m*3) _ (by have:=pV.at ps m 0 p hp (by omega);rw[Nat.add_zero]at this;rw[this];rfl),Own.cells hps (m*3+1) _ (by rw[pV.at ps m 1 p hp (by omega)];rfl),Own.cells hps (m*3+2) _ (by rw[pV.at ps m 2 p hp (by omega)];rfl)⟩
 refine wpIn_rangeFunc_ownH (F:=Fence.wide) (n:=6) rfl (by omega) (gf:=98) (lb:=#[.pointer (some ⟨w.heap.size+1,0,none⟩)]) rfl trivial (enters_of Tryz.func98 (by kernel_rfl) rfl)
  (Zo Fence.wide 5 trivial rfl (by omega) (w.heap.size+1) lb cap ps (by omega) W0 (by omega) (by omega) vL.cell (fun m p hp=>⟨(hB0.cell (p:=⟨lb,m*3,none⟩) hlt).trans (hcell m p hp).1,(hB0.cell (p:=⟨lb,m*3+1,none⟩) hlt).trans (hcell m p hp).2.1,(hB0.cell (p:=⟨lb,m*3+2,none⟩) hlt).trans (hcell m p hp).2.2⟩))
  jB.trans (Oj (by omega) (by omega)) (ak _ _) (fun _=>rfl)
  (fun pre W=>Cn w b nv st txt lb pre W∧bI w W b∧w.heap.size+2≤W.heap.size∧Boxed W (w.heap.size+1) 82 (.slice (some ⟨lb,0,none⟩) ps.length cap))
  (fun _ _ _=>False)
  ?hI (fun _ _ _ _ _ hs _ _=>hs) ?h0
  (fun x a' W=>∃Bx,w.heap.size+1<Bx∧jd W Bx x.2∧(∃wv ad bv,il W b nv wv ad bv∧wv.ownBlock≠some Bx)∧a'={ tmps:=#[.pointer (some ⟨b,0,none⟩),.slice (some ⟨lb,0,none⟩) ps.length cap,.pointer (some ⟨w.heap.size,0,none⟩),undef,undef,.pointer (some ⟨Bx,0,none⟩),.slice (some ⟨lb,0,none⟩) ps.length cap,.func (.func 98) #[] #[.pointer (some ⟨w.heap.size+1,0,none⟩)],.int .i64 (x.1:Int),.agg (nk x.2),undef,undef,undef,undef,undef,undef,undef,undef,undef,undef],defers:=[] })
  ?hAx ?assign ?body ?done ?stop
 case hI =>
  rintro pre X Y row ⟨h1,h2,h3,h4⟩ hg hr;refine⟨agk RU _ pre X Y row h1 hg hr,h2.stay hg (fun r e=>by have:=(hr r e).1;omega),by have:=hg.size;omega,zt hg (fun r e=>(hr r e).2) h4⟩
 case h0 =>
  refine⟨⟨⟨wv,hws.below hB0,by rw[List.map_nil,gL];exact Own.below hq hB0 (aj _),hne wv hws⟩,zm,hB0.block lb hlt⟩,bI.iP hB0,by omega,vL⟩
 case hAx =>
  rintro x a' _ X Y row ⟨Bx,h1,h2,⟨wv2,AA,AL,h4,h5⟩,h3⟩ hg hr;exact⟨Bx,h1,zt hg (fun r e=>(hr r e).2) h2,⟨wv2,AA,AL,zt hg (fun r e=>(hr r e).2) h4,h5⟩,h3⟩
 case assign =>
  rintro l pre ⟨j,p⟩ W K ⟨hI,hF,hz,hbs⟩ hK;dsimp only[nk];gi_wp2
  have hal:Below W.heap.size W (W.alloc (.cells (nk p) 90)):=(ak _ _).alloc (aj _) _
  have ae6:∃wv ad bv,il (W.alloc (.cells (nk p) 90)) b nv wv ad bv∧wv.ownBlock≠some W.heap.size:=by
   obtain⟨⟨wv2,⟨AA,AL,g1,g2,g3,g4⟩,g5,g6⟩, -, -⟩:=hI;exact⟨wv2,AA,AL,g1.below hal g1.lt,fun e=>by have:=(Own.kT g5 _ e).2.1;omega⟩
  exact hK _ _ ((KeepsOthers.alloc _ _).from _) ⟨hal.block _ (by omega),hal.block _ (by omega)⟩ ⟨hI.below hal (by omega),hF.trans (bI.iP hal),by simp;omega,hbs.alloc _⟩ ⟨W.heap.size,by omega,jd.new W p,ae6,rfl⟩
 case body =>
  rintro l pre ⟨j,p⟩ a' W hl ⟨r,hr⟩ ⟨⟨⟨wv1,⟨ad,bv,hw1,abn,ho1,abw⟩,hq1,RY⟩,hbx,RS⟩,hF,hz,hbs⟩ ⟨Bx,hBx,hpt,⟨wv2,AA,AL,acC,ab'⟩,rfl⟩ lH
  have hwe:wv2=wv1:=by
   have e:W.heap[b]? = some (.cells #[nv,wv1,ad,bv] 87):=hw1;have e2:W.heap[b]? = some (.cells #[nv,wv2,AA,AL] 87):=acC;rw[e]at e2;injection e2 with e2;injection e2 with e2;simp at e2;exact e2.1.symm
  subst hwe;obtain⟨c0,c1,c2,c3⟩:=hw1.facts;have f1:=hw1.frozen 1;have KO:=hbx.cell;obtain⟨y0,y1,y2⟩:=hpt.cells;have hWb:=hw1.lt;have hbW:b<w.heap.size:=hwb;have qE:Bx<W.heap.size:=(dB.1 hpt).1;have hnl:(st++pre.map (·.2)).length≤3000000000:=by rw[ax,eF];omega
  have R9:Own pV 90 ((W.alloc (.cells #[.string p.t,.int .i64 p.node,.int .i64 p.least] 90)).drew) (b+1) wv2 (st++pre.map (·.2)):=(hq1.alloc _).drew;obtain⟨v',w',rE,gQ,hgr,hat⟩:=Zf 82 Elem.part pV (b+1) wv2 _ R9 ⟨W.heap.size,0,none⟩ 1 1 [p] rfl (fun j u hu=>gD (w:=W) _ _ _ rfl j u hu) (by omega) (by unfold maxLen;omega) (by simp;omega);have hgb:some b≠wv2.ownBlock:=fun e=>by have:=(Own.kT hq1 b e.symm).1;omega
  have hgw:some w.heap.size≠wv2.ownBlock:=fun e=>by
   obtain⟨-, -,cur,ow⟩:=Own.kT hq1 _ e.symm;have h2:W.heap[w.heap.size]? = some (.cells #[.pointer (some ⟨b,0,none⟩)] 81):=hbx;rw[h2]at ow;injection ow with ow;injection ow with _ ht;exact absurd ht (by decide)
  have hgB:some Bx≠wv2.ownBlock:=fun e=>ab' e.symm
  have kd:∀(ad:Addr){u:Value},ad.block<W.heap.size→some ad.block≠wv2.ownBlock→((W.alloc (.cells #[.string p.t,.int .i64 p.node,.int .i64 p.least] 90)).drew).cell? ad=some u→w'.cell? ad=some u:=fun ad u h1 h2 h3=>(gK (hgr.block ad.block (by simp;omega) h2)).trans h3
  have hw2:il w' b nv wv2 ad bv:=by
   unfold il;rw[hgr.block b (by simp;omega) hgb];exact hw1.below ((ak _ _).alloc (aj _) _).drew hw1.lt
  have ab0:lb≠b:=fun e=>by
   have e1:W.heap[b]? = some (.cells #[nv,_,ad,bv] 87):=hw1;rw[← e,RS,RU]at e1;injection e1 with e1;injection e1 with _ e2;exact absurd e2 (by decide)
  have abJ:some (w.heap.size+1)≠wv2.ownBlock:=fun e=>by
   obtain⟨-, -,cur,ow⟩:=Own.kT hq1 _ e.symm;have h2:W.heap[w.heap.size+1]? = some (.cells #[.slice (some ⟨lb,0,none⟩) ps.length cap] 82):=hbs;rw[h2]at ow;injection ow with ow;injection ow with _ ht;exact absurd ht (by decide)
  have EG:∀k,k<W.heap.size→some k≠wv2.ownBlock→w'.heap[k]? = W.heap[k]? := fun k h1 h2=>(hgr.block k (by simp;omega) h2).trans (((ak W.heap.size W).alloc (aj _) (.cells #[.string p.t,.int .i64 p.node,.int .i64 p.least] 90)).drew.block k h1)
  have abv:qz w' (b+1) bv txt:=Own.keep ho1 fun g hg1 hg2 hg3=>EG g hg2 (fun e=>by
   obtain⟨-, -,cur,ow⟩:=Own.kT hq1 _ e.symm;obtain⟨-,aak,fr2,abz⟩:=M5 ho1 g hg3;rw[abz]at ow;injection ow with ow;injection ow with _ ht;exact absurd ht (by decide))
  have acy:W.heap.size≤w'.heap.size:=by have:=hgr.size;simp at this;omega
  have hke:KeepsOthers W w':=((KeepsOthers.alloc W (.cells #[.string p.t,.int .i64 p.node,.int .i64 p.least] 90)).trans (KeepsOthers.drew _)).trans (KeepsOthers.of_grownBy hgr (fun j o hj ho=>by
   obtain⟨-, -,cur,ow⟩:=Own.kT R9 _ hj;rw[ow]at ho;cases ho;rfl))
  have hfq:bI W w' b:=⟨hgr.os,hgr.tape,hgr.output,acy,fun k hk hkb hr=>EG k hk (fun e=>by
   obtain⟨h1, -,cur,ow⟩:=Own.kT hq1 _ e.symm;rcases hr with hr|hr
   · omega
   · exact(hr cur _).2 ow)⟩
  have acd:∀v2:Value,(v2.ownBlock=wv2.ownBlock∨v2.ownBlock=some ((W.alloc (.cells #[.string p.t,.int .i64 p.node,.int .i64 p.least] 90)).drew).heap.size)→v2.ownBlock≠some lb:=fun v2 h e=>by
   rcases h with h|h
   · rw[h]at e;exact RY e
   · rw[h]at e;have:=dM e;simp at this;omega
  obtain⟨ao,n1,fu,rfl⟩:=Ir hq1;obtain⟨ry,n2,jU,rfl⟩:=Ir gQ;have Pg:=ae rE;have hmx:Tryz.prog.follows .mixedOrders=true:=by kernel_rfl
  clear rE;dsimp only at y0 y1 y2;have hal:Below W.heap.size W ((W.alloc (.cells #[.string p.t,.int .i64 p.node,.int .i64 p.least] 90)).drew):=((ak _ _).alloc (aj _) _).drew;gi_wp2
  have BE:KeepsFrom (w.heap.size+2) W (w'.setCell ⟨b,1,none⟩ (.slice ry n2 jU))∧jB (w.heap.size+1) lb W (w'.setCell ⟨b,1,none⟩ (.slice ry n2 jU))∧(Cn w b nv st txt lb (pre++[(j,p)]) (w'.setCell ⟨b,1,none⟩ (.slice ry n2 jU))∧bI w (w'.setCell ⟨b,1,none⟩ (.slice ry n2 jU)) b∧w.heap.size+2≤(w'.setCell ⟨b,1,none⟩ (.slice ry n2 jU)).heap.size∧Boxed (w'.setCell ⟨b,1,none⟩ (.slice ry n2 jU)) (w.heap.size+1) 82 (.slice (some ⟨lb,0,none⟩) ps.length cap)):=by
   have gs:=grownBy.gU (grownBy.fT w' (some b)) 1 (.slice ry n2 jU);have s1:(w'.setCell ⟨b,1,none⟩ (.slice ry n2 jU)).heap[w.heap.size+1]? = W.heap[w.heap.size+1]? := (gy w' ⟨b,1,none⟩ _ _ (by show w.heap.size+1≠b;omega)).trans (EG _ (by omega) abJ);have s0:(w'.setCell ⟨b,1,none⟩ (.slice ry n2 jU)).heap[w.heap.size]? = W.heap[w.heap.size]? := (gy w' ⟨b,1,none⟩ _ _ (by show w.heap.size≠b;omega)).trans (EG _ (by omega) hgw);have sl:(w'.setCell ⟨b,1,none⟩ (.slice ry n2 jU)).heap[lb]? = W.heap[lb]? := (gy w' ⟨b,1,none⟩ _ _ ab0).trans (EG _ (by omega) (fun e=>RY e.symm));refine⟨(hke.trans (KeepsOthers.setCell _ _ _)).from _,⟨s1,sl⟩,⟨⟨.slice ry n2 jU,⟨ad,bv,hw2.CZ _,abn,Own.other abv gs (Nat.lt_succ_self b),abw⟩, ?_,acd _ hat⟩,s0.trans hbx,sl.trans RS⟩,(hF.trans hfq).trans (bI.uO (iM.uO gs)),by have:=gs.size;omega,s1.trans hbs⟩;rw[iL, ← bQ];exact Own.other gQ gs (Nat.lt_succ_self b)
  have mG:(fun w'=>w'.cell? ⟨w.heap.size,0,none⟩=some (.pointer (some ⟨b,0,none⟩))∧w'.cell? ⟨Bx,0,none⟩=some (.string p.t)∧w'.cell? ⟨Bx,1,none⟩=some (.int .i64 p.node)∧w'.cell? ⟨Bx,2,none⟩=some (.int .i64 p.least)) (w'.setCell ⟨b,1,none⟩ (.slice ry n2 jU)):=by
   have gs:=grownBy.gU (grownBy.fT w' (some b)) 1 (.slice ry n2 jU);have kc:∀(ad:Addr){u:Value},ad.block<W.heap.size→ad.block≠b→w'.cell? ad=some u→(w'.setCell ⟨b,1,none⟩ (.slice ry n2 jU)).cell? ad=some u:=fun ad u h0 h1 h2=>(gK (gy w' ⟨b,1,none⟩ _ ad.block h1)).trans h2
   exact⟨kc ⟨w.heap.size,0,none⟩ (by show w.heap.size<_;omega) (by show w.heap.size≠b;omega) (kd ⟨w.heap.size,0,none⟩ (by show w.heap.size<_;omega) hgw ((hal.cell (p:=⟨w.heap.size,0,none⟩) (show w.heap.size<W.heap.size by omega)).trans KO)),kc ⟨Bx,0,none⟩ qE (by show Bx≠b;omega) (kd ⟨Bx,0,none⟩ qE hgB ((hal.cell (p:=⟨Bx,0,none⟩) qE).trans y0)),kc ⟨Bx,1,none⟩ qE (by show Bx≠b;omega) (kd ⟨Bx,1,none⟩ qE hgB ((hal.cell (p:=⟨Bx,1,none⟩) qE).trans y1)),kc ⟨Bx,2,none⟩ qE (by show Bx≠b;omega) (kd ⟨Bx,2,none⟩ qE hgB ((hal.cell (p:=⟨Bx,2,none⟩) qE).trans y2))⟩
  have cK:(fun w'=>w'.cell? ⟨w.heap.size,0,none⟩=some (.pointer (some ⟨b,0,none⟩))∧w'.cell? ⟨Bx,0,none⟩=some (.string p.t)∧w'.cell? ⟨Bx,1,none⟩=some (.int .i64 p.node)∧w'.cell? ⟨Bx,2,none⟩=some (.int .i64 p.least)) W.drew:=⟨KO,y0,y1,y2⟩;have fF:(fun w'=>w'.cell? ⟨w.heap.size,0,none⟩=some (.pointer (some ⟨b,0,none⟩))∧w'.cell? ⟨Bx,0,none⟩=some (.string p.t)∧w'.cell? ⟨Bx,1,none⟩=some (.int .i64 p.node)∧w'.cell? ⟨Bx,2,none⟩=some (.int .i64 p.least)) ((W.alloc (.cells #[.string p.t,.int .i64 p.node,.int .i64 p.least] 90)).drew):=⟨(hal.cell (p:=⟨w.heap.size,0,none⟩) (show w.heap.size<W.heap.size by omega)).trans KO,(hal.cell (p:=⟨Bx,0,none⟩) qE).trans y0,(hal.cell (p:=⟨Bx,1,none⟩) qE).trans y1,(hal.cell (p:=⟨Bx,2,none⟩) qE).trans y2⟩;refine Nl (by kernel_rfl) (by kernel_rfl) (wpAny_of_held (S:=fun w'=>w'.cell? ⟨w.heap.size,0,none⟩=some (.pointer (some ⟨b,0,none⟩))∧w'.cell? ⟨Bx,0,none⟩=some (.string p.t)∧w'.cell? ⟨Bx,1,none⟩=some (.int .i64 p.node)∧w'.cell? ⟨Bx,2,none⟩=some (.int .i64 p.least)) _ _ _ _ ?_);show wpAnyH _ _ _ _ _ 11 #[false,false,false,false,false,false,false,false,false,false,false] _ _;refine hT 0 cK ?_ (hy:=by(intro ig hSw;obtain⟨e1,e2,e3,e4⟩:=hSw;go_simp;try(with_reducible rfl)));refine hT 1 cK ?_ (hy:=by(intro ig hSw;obtain⟨e1,e2,e3,e4⟩:=hSw;go_simp;try(with_reducible rfl)));refine hT 2 cK ?_;refine hT 3 cK ?_;refine hT 5 cK ?_ (hy:=by(intro ig hSw;obtain⟨e1,e2,e3,e4⟩:=hSw;go_simp;try(with_reducible rfl)));have d1:((W.alloc (.cells #[.string p.t,.int .i64 p.node,.int .i64 p.least] 90)).drew).cell? ⟨b,1,none⟩=some (.slice ao n1 fu):=(hal.cell (p:=⟨b,1,none⟩) hWb).trans c1;have HS2:(fun w'=>w'.cell? ⟨w.heap.size,0,none⟩=some (.pointer (some ⟨b,0,none⟩))∧w'.cell? ⟨Bx,0,none⟩=some (.string p.t)∧w'.cell? ⟨Bx,1,none⟩=some (.int .i64 p.node)∧w'.cell? ⟨Bx,2,none⟩=some (.int .i64 p.least)) w':=⟨kd ⟨w.heap.size,0,none⟩ (by show w.heap.size<_;omega) hgw fF.1,kd ⟨Bx,0,none⟩ qE hgB fF.2.1,kd ⟨Bx,1,none⟩ qE hgB fF.2.2.1,kd ⟨Bx,2,none⟩ qE hgB fF.2.2.2⟩;have f1':w'.frozen? ⟨b,1,none⟩=false:=hw2.frozen 1;have g1':w'.cell? ⟨b,1,none⟩=some (.slice ao n1 fu):=hw2.facts.2.1;refine wpAnyH_ready (rs:=[4,6]) (by kernel_rfl) (by simp) (AllReadyH.cons rfl (fun K hK => ?_) (AllReadyH.cons rfl (fun K hK => ?_) AllReadyH.nil))
  · rw[ag (by rfl)]
    go_simp;refine hK _ _ cK (fun _ => ?_);clear hK K;simp only[List.setIfInBounds_toArray,List.set_cons_zero,List.set_cons_succ];refine hO 6 (fun K hK => ?_);go_simp;refine hK.o _ _ fF ?_;clear hK K;simp only[Act.put,sT,fV,fU];refine hO 7 (fun K hK => ?_);refine Xn (.tmp 14) (.tmp 16) rfl rfl rfl Pg.o ?_;refine hK.o _ _ HS2 ?_;clear hK K;simp only[Act.put,sT,fV,fU];refine hT 8 HS2 ?_;refine hT 9 HS2 ?_;refine hO 10 (fun K hK => ?_);go_simp;refine hK.o undef _ mG ?_;clear hK K;simp only[Act.put];refine wpAnyH_done (by kernel_rfl) ?_ _;refine⟨rfl, ?_⟩;gi_wp2
    exact BE
  · rw[ag (by rfl)]
    go_simp;refine hK _ _ fF (fun _ => ?_);clear hK K;simp only[List.setIfInBounds_toArray,List.set_cons_zero,List.set_cons_succ];refine hO 4 (fun K hK => ?_);go_simp;refine hK.o _ _ fF ?_;clear hK K;simp only[Act.put,sT,fV,fU];refine hO 7 (fun K hK => ?_);refine Xn (.tmp 14) (.tmp 16) rfl rfl rfl Pg.o ?_;refine hK.o _ _ HS2 ?_;clear hK K;simp only[Act.put,sT,fV,fU];refine hT 8 HS2 ?_;refine hT 9 HS2 ?_;refine hO 10 (fun K hK => ?_);go_simp;refine hK.o undef _ mG ?_;clear hK K;simp only[Act.put];refine wpAnyH_done (by kernel_rfl) ?_ _;refine⟨rfl, ?_⟩;gi_wp2
    exact BE
 case done =>
  rintro D ys W hD rfl ⟨⟨⟨wv1,h1,h2, -⟩, -, -⟩,hF,hz, -⟩ hK;gi_wp2
  have hg:=grownBy_putObj' W D (.deferred none);have hr:∀r,some D=some r→∃o:Obj,W.heap[r]? = some o∧o.isCells=false:=fun r e=>by cases e;exact⟨_,hK,rfl⟩
  refine⟨by simp,.inl ⟨_,_,rfl,run_takeDeferred hK, ?_⟩⟩;rw[ZU ps 0 (ek _),List.drop_zero]at h2;exact⟨_,results_none rfl _ _ _,rfl,⟨wv1,lV.stay h1 hg hr,Im h2 hg hr⟩,hF.stay hg (fun r e=>by cases e;omega)⟩
 case stop =>
  rintro D c pre W _ _ h _;exact h.elim
end Go.Proofs.YtbplbjmmfgjdjaaGreatDoor
namespace Go.Proofs.YtbplbjmmfgjdjaaGreatDoor
open Go.RowKit
variable {txt:List Int}{st:List aD}{b:Nat}{w w':World}
def ni(k:Int):Nat:=if k=1 then 100 else if k=2 then 101 else if k=3 then 102 else if k=4 then 103 else if k=5 then 104 else if k=6 then 105 else if k=7 then 106 else if k=8 then 107 else 108
theorem Ue (k:Int)(w:World):Calls Tryz.prog 74 #[.int .i64 k] w fun e w'=>e = .returned (.func (.func (ni k)) #[] #[])∧w=w':=by
 have fin:∀r:Nat,ni k=r→(Calls Tryz.prog 74 #[.int .i64 k] w fun e w'=>e = .returned (.func (.func r) #[] #[])∧w=w')→Calls Tryz.prog 74 #[.int .i64 k] w fun e w'=>e = .returned (.func (.func (ni k)) #[] #[])∧w=w':=fun r h1 h2=>by rw[h1];exact h2
 by_cases h1:k=1
 · refine fin 100 (by subst h1;rfl) ?_
   clear fin;subst h1;go_enter Tryz.func74,Tryz.ntmps74;go_wp2_with fail
   go_ret;exact⟨rfl,rfl⟩
 by_cases h2:k=2
 · refine fin 101 (by subst h2;rfl) ?_
   clear fin;subst h2;go_enter Tryz.func74,Tryz.ntmps74;go_wp2_with fail
   go_ret;exact⟨rfl,rfl⟩
 by_cases h3:k=3
 · refine fin 102 (by subst h3;rfl) ?_
   clear fin;subst h3;go_enter Tryz.func74,Tryz.ntmps74;go_wp2_with fail
   go_ret;exact⟨rfl,rfl⟩
 by_cases h4:k=4
 · refine fin 103 (by subst h4;rfl) ?_
   clear fin;subst h4;go_enter Tryz.func74,Tryz.ntmps74;go_wp2_with fail
   go_ret;exact⟨rfl,rfl⟩
 by_cases h5:k=5
 · refine fin 104 (by subst h5;rfl) ?_
   clear fin;subst h5;go_enter Tryz.func74,Tryz.ntmps74;go_wp2_with fail
   go_ret;exact⟨rfl,rfl⟩
 by_cases h6:k=6
 · refine fin 105 (by subst h6;rfl) ?_
   clear fin;subst h6;go_enter Tryz.func74,Tryz.ntmps74;go_wp2_with fail
   go_ret;exact⟨rfl,rfl⟩
 by_cases h7:k=7
 · refine fin 106 (by subst h7;rfl) ?_
   clear fin;subst h7;go_enter Tryz.func74,Tryz.ntmps74;go_wp2_with fail
   go_ret;exact⟨rfl,rfl⟩
 by_cases h8:k=8
 · refine fin 107 (by subst h8;rfl) ?_
   clear fin;subst h8;go_enter Tryz.func74,Tryz.ntmps74;go_wp2_with fail
   go_ret;exact⟨rfl,rfl⟩
 refine fin 108 (by unfold ni;rw[af h1,af h2,af h3,af h4,af h5,af h6,af h7,af h8]) ?_;have e1:(k == 1)=false:=aA.2 h1;have e2:(k == 2)=false:=aA.2 h2;have e3:(k == 3)=false:=aA.2 h3;have e4:(k == 4)=false:=aA.2 h4;have e5:(k == 5)=false:=aA.2 h5;have e6:(k == 6)=false:=aA.2 h6;have e7:(k == 7)=false:=aA.2 h7;have e8:(k == 8)=false:=aA.2 h8;clear fin h1 h2 h3 h4 h5 h6 h7 h8;go_enter Tryz.func74,Tryz.ntmps74;go_wp2_with fail
 go_ret;exact⟨rfl,rfl⟩
theorem dW.below {nv:Value}(h:dW w b nv st txt)(hb:Below w.heap.size w w'):dW w' b nv st txt:=by
 obtain⟨wv,h1,h2⟩:=h;exact⟨wv,h1.below hb,h2.below hb (aj _)⟩
theorem dW.wrote {nv wv:Value}(h:Own pV 90 w (b+1) wv st)(hs:lV w' b nv wv txt)(hf:iM w w' b):dW w' b nv st txt :=
 ⟨wv,hs,Own.keep h fun g h1 h2 h3=>hf.block g h2 (by omega) (.inr fun cur fr e=>by
  obtain⟨-, -,aak,hc⟩:=Own.kT h g h3;rw[hc]at e;injection e with e;injection e with _ e2;exact absurd e2 (by decide))⟩
def mX (w:World)(b:Nat)(nv:Value)(st:List aD)(txt:List Int)(n:Nd)(e:Ending)(w':World):Prop :=
 e = .returned (.tuple #[])∧dW w' b nv (st++(eP n).2.reverse) (txt++(eP n).1)∧bI w w' b
theorem mX.of {w1 w2:World}{nv wv:Value}{Xh:List Int}{n:Nd}(hb:Below w.heap.size w w1)(h:Own pV 90 w1 (b+1) wv st)(hs:lV w2 b nv wv Xh)(hf:iM w1 w2 b)(h1:(eP n).2=[])(h2:Xh=txt++(eP n).1):mX w b nv st txt n (.returned (.tuple #[])) w2:=by
 refine⟨rfl, ?_,(bI.iP hb).trans (bI.uO hf)⟩;rw[h1, ← h2,List.reverse_nil,gL];exact dW.wrote h hs hf
theorem aaq (w:World)(b:Nat)(nv:Value)(st:List aD)(txt:List Int)(n:Nd)(A:Option Addr)(m c:Nat)(h:dW w b nv st txt)(hk:n.kind=4)(hl:txt.length≤1000000000) :
 Calls Tryz.prog 103 #[.pointer (some ⟨b,0,none⟩),.agg (aB n (.slice A m c))] w (mX w b nv st txt n):=by
 (try unfold aB)
 have hB:Below w.heap.size w (w.alloc (.cells (aB n (.slice A m c)) 44)):=(ak _ _).alloc (aj _) _;have hs:eP n=([35,82,69,70,33],[]):=by unfold eP;rw[af (by omega),af (by omega),af (by omega),ag hk]
 have HS:=ae hs;have HB:=ae hB;obtain⟨wv,h1,h2⟩:=h.below hB;have HO:=ae h2;have HW:=ae (tL _ b nv wv txt ⟨#[35,82,69,70,33]⟩ h1 (by show txt.length+5≤_;omega));clear h h1 h2 hB hs hk;go_enter Tryz.func103,Tryz.ntmps103;go_wp2_with (go_at_call 71;((with_reducible refine HW.o.mono ?_);rintro e w2 ⟨⟨x,rfl⟩,h3,h4⟩;have H3:=ae h3;have H4:=ae h4;clear h3 h4))
 go_end0;exact mX.of HB.o HO.o H3.o H4.o (by rw[HS.o]) (by rw[HS.o,show sb ⟨#[35,82,69,70,33]⟩=[35,82,69,70,33]by decide])
theorem ajA (w:World)(b:Nat)(nv:Value)(st:List aD)(txt:List Int)(n:Nd)(A:Option Addr)(m c:Nat)(h:dW w b nv st txt)(hk:n.kind=3)(hv:n.num=1)(hl:txt.length≤1000000000) :
 Calls Tryz.prog 102 #[.pointer (some ⟨b,0,none⟩),.agg (aB n (.slice A m c))] w (mX w b nv st txt n):=by
 (try unfold aB)
 have hB:Below w.heap.size w (w.alloc (.cells (aB n (.slice A m c)) 44)):=(ak _ _).alloc (aj _) _;have hs:eP n=([84,82,85,69],[]):=by unfold eP;rw[af (by omega),af (by omega),ag hk,ag hv]
 have HS:=ae hs;have HB:=ae hB;obtain⟨wv,h1,h2⟩:=h.below hB;have HO:=ae h2;have HW:=ae (tL _ b nv wv txt ⟨#[84,82,85,69]⟩ h1 (by show txt.length+4≤_;omega));have g1:(n.num == 1)=true:=bB.2 hv;clear h h1 h2 hB hs hk hv;go_enter Tryz.func102,Tryz.ntmps102;go_wp2_with (go_at_call 71;((with_reducible refine HW.o.mono ?_);rintro e w2 ⟨⟨x,rfl⟩,h3,h4⟩;have H3:=ae h3;have H4:=ae h4;clear h3 h4))
 go_end0;exact mX.of HB.o HO.o H3.o H4.o (by rw[HS.o]) (by rw[HS.o,show sb ⟨#[84,82,85,69]⟩=[84,82,85,69]by decide])
theorem ajz (w:World)(b:Nat)(nv:Value)(st:List aD)(txt:List Int)(n:Nd)(A:Option Addr)(m c:Nat)(h:dW w b nv st txt)(hk:n.kind=3)(hv:¬ n.num=1)(hl:txt.length≤1000000000) :
 Calls Tryz.prog 102 #[.pointer (some ⟨b,0,none⟩),.agg (aB n (.slice A m c))] w (mX w b nv st txt n):=by
 (try unfold aB)
 have hB:Below w.heap.size w (w.alloc (.cells (aB n (.slice A m c)) 44)):=(ak _ _).alloc (aj _) _;have hs:eP n=([70,65,76,83,69],[]):=by unfold eP;rw[af (by omega),af (by omega),ag hk,af hv]
 have HS:=ae hs;have HB:=ae hB;obtain⟨wv,h1,h2⟩:=h.below hB;have HO:=ae h2;have HW:=ae (tL _ b nv wv txt ⟨#[70,65,76,83,69]⟩ h1 (by show txt.length+5≤_;omega));have g1:(n.num == 1)=false:=aA.2 hv;clear h h1 h2 hB hs hk hv;go_enter Tryz.func102,Tryz.ntmps102;go_wp2_with (go_at_call 71;((with_reducible refine HW.o.mono ?_);rintro e w2 ⟨⟨x,rfl⟩,h3,h4⟩;have H3:=ae h3;have H4:=ae h4;clear h3 h4))
 go_end0;exact mX.of HB.o HO.o H3.o H4.o (by rw[HS.o]) (by rw[HS.o,show sb ⟨#[70,65,76,83,69]⟩=[70,65,76,83,69]by decide])
theorem aag (n:Int)(_h0 : -9223372036854775808≤n)(_h1:n≤9223372036854775807)(w:World) :
 Calls Tryz.prog 158 #[.int .i64 n] w fun e w'=>e = .returned (.string (strOfNums (bG n)))∧w=w':=by
 by_cases hr:n<0∨701<n
 · have hc:bG n=[]:=by unfold bG;rw[ag hr]
   have HC:=ae hc;clear hc;go_enter Tryz.func158,Tryz.ntmps158
   go_wp2
   all_goals first|omega|skip
   all_goals go_ret
   all_goals exact⟨by rw[HC.o];rfl,rfl⟩
 · have h0:¬ n<0:=by omega
   have h2:¬ 701<n:=by omega
   have h0':0≤n:=by omega
   have he:=QI (65+n % 26) (by omega) (by omega);have HE:=ae he;clear he;by_cases h26:n<26
   · have hc:bG n=[65+n % 26]:=by unfold bG;rw[af hr,ag h26];congr 1;omega
     have HC:=ae hc;clear hc hr;go_enter Tryz.func158,Tryz.ntmps158;go_wp2_with fail
     all_goals go_ret
     all_goals exact⟨by rw[HC.o, ← HE.o];rfl,rfl⟩
   · have hc:bG n=[65+n / 26 - 1]++[65+n % 26]:=by unfold bG;rw[af hr,af h26];show [64+n / 26,65+n % 26]=[65+n / 26 - 1,65+n % 26];congr 1;omega
     have he2:=QI (65+n / 26 - 1) (by omega) (by omega);have hz:(Utf8.encode (65+n / 26 - 1)).size+(Utf8.encode (65+n % 26)).size≤8:=by rw[he2,HE.o,strOfNums_size,strOfNums_size];simp
     have HE2:=ae he2;clear he2;have HC:=ae hc;clear hc hr;go_enter Tryz.func158,Tryz.ntmps158;go_wp2_with fail
     all_goals go_ret
     all_goals exact⟨nu (by rw[HC.o];exact aiU _ _ _ _ HE2.o HE.o),rfl⟩
theorem agy{s:ByteArray}{c r:Int}{ac ar:Bool}(h:dz w b s c r ac ar):dz w.drew b s c r ac ar:=h
theorem lU.drew(h:lU w):lU w.drew:=h
theorem Zv(h:Below w.drew.heap.size w.drew w'):Below w.heap.size w w':=⟨h.os,h.tape,h.output,h.size,h.block⟩
theorem acY {x:Int}{k:Nat}(h:x=(k:Int))(h1:k≤9223372036854775807)(w:World)(ht:lU w) :
 Calls Tryz.prog 133 #[.int .i64 x] w fun e w'=>e = .returned (.string (strOfNums (bn k)))∧Below w.heap.size w w':=by subst h;exact Td k h1 w ht
theorem aiS{base:Nat}{v:Value}{xs:List Int}{t:ByteArray}(e:strOfNums xs=t)(h:qz w base v xs):(convert 22 9 v).run Tryz.prog w = .ok (.string t) w:=by rw[← e];exact Dj h
theorem ahL(c:Int):sb (strOfNums (bG c))=bG c:=jN _ (Qk c)
def uQ(s:ByteArray):List Int:=if s.size=0 then []else sb s++[33]
def wB(b:Bool):List Int:=if b=true then [36]else []
theorem adJ(s:ByteArray):(uQ s).length≤s.size+1:=by unfold uQ;split <;> simp[bC]
theorem Tq(b:Bool):(wB b).length≤1:=by cases b <;> decide
theorem ai8 (s:ByteArray)(c r:Int)(k:Nat)(ac ar:Bool)(w:World)(nL:lU w)(_hs:s.size≤1000000)(hm:dO (sb s) c r=true)(hc0:0≤c)(hc1:c≤701)(hr0:0≤r)(hr1:r≤998)(hk:r+1=(k:Int))(hz1:(strOfNums (bG c)).size≤2)(hz2:(strOfNums (bn k)).size≤1000) :
 Calls Tryz.prog 135 #[.agg #[.string s,.int .i64 c,.int .i64 r,.bool ac,.bool ar]] w fun e w'=>e = .returned (.string (strOfNums (bE (sb s) c r ac ar)))∧Below w.heap.size w w':=by
 have hk2:(r+1).toNat=k:=by omega
 have hp1:=adJ s;have hp2:=Tq ac;have hp3:=Tq ar
 have ht:(((uQ s++wB ac)++sb (strOfNums (bG c)))++wB ar)++bn k=bE (sb s) c r ac ar:=by
  unfold bE uQ wB;rw[ag hm,hk2,ahL];by_cases h0:s.size=0
  · have he:sb s=[]:=kM (by rw[bC];exact h0)
    rw[ag h0,ag he] <;> cases ac <;> cases ar <;> simp
  · have he:¬ sb s=[]:=fun h=>by have:=bC s;rw[h]at this;exact h0 this.symm
    rw[af h0,af he] <;> cases ac <;> cases ar <;> simp
 have HT:=ae ht;clear ht hk2;obtain⟨tt,Bi⟩:∃t,strOfNums (((uQ s++wB ac)++sb (strOfNums (bG c)))++wB ar)=t:=⟨_,rfl⟩;have hzt:tt.size≤1000100:=by rw[← Bi,strOfNums_size];simp only[ax,bC];omega
 have Eb:=ae Bi;clear Bi;have YB:=ae (show ¬ 9223372036854775807<tt.size+(strOfNums (bn k)).size by omega);have hR0:=dz.new w s c r ac ar;have iB:=ae hR0;clear hR0;have H0:=ae ((ak w.heap.size w).alloc (aj _) (.cells #[.string s,.int .i64 c,.int .i64 r,.bool ac,.bool ar] 42));have vB:=ae nL;clear nL;have LC:k≤999:=by omega
 have hwr:IntKind.i64.wrap (r+1)=r+1:=by rw[gJ];omega
 have HK:=ae hk;clear hk;go_enter Tryz.func135,Tryz.ntmps135;go_upto_region 4 with (go_at_call 64;((with_reducible refine(Bu _ _ _ _ _ _ ?_).mono ?_);(try omega);rintro e w1 ⟨rfl,h1⟩;have HR1:=ae (iB.o.below h1 iB.o.lt);have HO:=ae (Own.nil (aJ .u8) 5 w1 w1.heap.size);have HB:=ae (ak w1.heap.size w1);have H1:=ae h1;clear h1))
 obtain⟨x0,x1,x2,x3,x4⟩:=HR1.o.facts;go_upto_if 9 with (fail)
 go_cut [3]from 4 (fun bv wx=>∃(v:Value)(dn:World),v=bv∧dn=wx∧Hid (Own (aJ .u8) 5 dn w1.heap.size v (uQ s))∧Hid (Below w1.heap.size w1 dn))
 case first =>
  by_cases h0:s.size=0
  · have hp:uQ s=[]:=ag h0
    have J3:=ae hp;have hl1:s.toList.isEmpty=true:=by rw[wD s h0,show(⟨#[]⟩:ByteArray).toList=[]by rw[qH]];rfl
    simp only[hl1,Bool.not_true];clear h0 hp hl1;go_wp2_with fail
    go_meet
    case rel=>exact⟨_,_,rfl,rfl,ae (by rw[J3.o];exact HO.o),HB⟩
  · have hp:uQ s=([]++sb s)++[33]:=af h0
    have J3:=ae hp;have hne:=qg s h0;have uG:s.toList.isEmpty=false:=by cases hq:s.toList with|nil=>exact absurd hq hne|cons a l=>rfl
    simp only[uG,Bool.not_false];clear h0 hp
    go_wp2_with (first
     | (at_builtin;refine Jk Elem.u8 (aJ .u8) rfl (.tmp 10) (.tmp 12) rfl w1.heap.size _ _ rfl HO.o (.string s) s.size (sb s) rfl (bC s) (I7 s) ?_ ?_ ?_ ?_;(simp only[dX];omega);(simp only[dX];unfold maxLen;omega);exact HB.o.size;intro v3 w3 h1 h2;have HO:=ae h1;clear h1;have HB:=ae (HB.o.trans h2);clear h2;clear x0 x1 x2 x3 x4;obtain⟨x0,x1,x2,x3,x4⟩:=(HR1.o.below (HB.o) HR1.o.lt).facts)
     | (at_builtin;refine oL Elem.u8 (aJ .u8) rfl (.tmp 13) (.tmp 14) rfl w1.heap.size _ _ rfl (HO.o.alloc _) ⟨_,0,none⟩ 1 1 [33] rfl rfl ?_ ?_ ?_ ?_ ?_;exact gD _ _ _ rfl;(simp only[dX,ax,bC];omega);(simp only[dX,ax,bC];unfold maxLen;omega);(have:=HB.o.size;simp <;> omega);intro v3 w3 h1 h2;have HO:=ae h1;clear h1;have HB:=ae ((HB.o.alloc HB.o.size _).trans h2);clear h2;clear x0 x1 x2 x3 x4;obtain⟨x0,x1,x2,x3,x4⟩:=(HR1.o.below (HB.o) HR1.o.lt).facts))
    go_meet
    case rel=>exact⟨_,_,rfl,rfl,ae (by rw[J3.o];exact HO.o),HB⟩
 case rest =>
 obtain⟨v1,w2,rfl,rfl,HO,HB⟩:=hcut;clear x0 x1 x2 x3 x4;obtain⟨x0,x1,x2,x3,x4⟩:=(HR1.o.below HB.o HR1.o.lt).facts;go_upto_if 17 with (fail)
 go_cut [3]from 4 (fun bv wx=>∃(v:Value)(dn:World),v=bv∧dn=wx∧Hid (Own (aJ .u8) 5 dn w1.heap.size v (uQ s++wB ac))∧Hid (Below w1.heap.size w1 dn))
 case first =>
  cases ac
  · go_wp2_with fail
    go_meet
    case rel=>exact⟨_,_,rfl,rfl,by rw[show uQ s++wB false=uQ s from gL _];exact HO,HB⟩
  · go_wp2_with ((at_builtin;refine oL Elem.u8 (aJ .u8) rfl (.tmp 18) (.tmp 19) rfl w1.heap.size _ _ rfl (HO.o.alloc _) ⟨_,0,none⟩ 1 1 [36] rfl rfl ?_ ?_ ?_ ?_ ?_;exact gD _ _ _ rfl;omega;(unfold maxLen;omega);(have:=HB.o.size;simp <;> omega);intro v3 w3 h1 h2;have HO:=ae h1;clear h1;have HB:=ae ((HB.o.alloc HB.o.size _).trans h2);clear h2;clear x0 x1 x2 x3 x4;obtain⟨x0,x1,x2,x3,x4⟩:=(HR1.o.below (HB.o) HR1.o.lt).facts))
    go_meet
    case rel=>exact⟨_,_,rfl,rfl,HO,HB⟩
 case rest =>
 obtain⟨v2,w3,rfl,rfl,HO,HB⟩:=hcut;clear x0 x1 x2 x3 x4;obtain⟨x0,x1,x2,x3,x4⟩:=(HR1.o.below HB.o HR1.o.lt).facts
 go_upto_if 27 with (first
  | (go_at_call 158;((with_reducible refine(aag _ ?_ ?_ _).mono ?_);(try omega);(try omega);rintro e w2 ⟨rfl,rfl⟩))
  | (at_builtin;refine Jk Elem.u8 (aJ .u8) rfl (.tmp 21) (.tmp 24) rfl w1.heap.size _ _ rfl HO.o (.string (strOfNums (bG c))) (strOfNums (bG c)).size (sb (strOfNums (bG c))) rfl (bC (strOfNums (bG c))) (I7 (strOfNums (bG c))) ?_ ?_ ?_ ?_;(simp only[ax];omega);(simp only[ax];unfold maxLen;omega);exact HB.o.size;intro v3 w3 h1 h2;have HO:=ae h1;clear h1;have HB:=ae (HB.o.trans h2);clear h2;clear x0 x1 x2 x3 x4;obtain⟨x0,x1,x2,x3,x4⟩:=(HR1.o.below (HB.o) HR1.o.lt).facts))
 go_cut [3]from 4 (fun bv wx=>∃(v:Value)(dn:World),v=bv∧dn=wx∧Hid (Own (aJ .u8) 5 dn w1.heap.size v (((uQ s++wB ac)++sb (strOfNums (bG c)))++wB ar))∧Hid (Below w1.heap.size w1 dn))
 case first =>
  cases ar
  · go_wp2_with fail
    go_meet
    case rel=>exact⟨_,_,rfl,rfl,by rw[show ∀l:List Int,l++wB false=l from gL];exact HO,HB⟩
  · go_wp2_with ((at_builtin;refine oL Elem.u8 (aJ .u8) rfl (.tmp 28) (.tmp 29) rfl w1.heap.size _ _ rfl (HO.o.alloc _) ⟨_,0,none⟩ 1 1 [36] rfl rfl ?_ ?_ ?_ ?_ ?_;exact gD _ _ _ rfl;(simp only[ax,bC];omega);(simp only[ax,bC];unfold maxLen;omega);(have:=HB.o.size;simp <;> omega);intro v3 w3 h1 h2;have HO:=ae h1;clear h1;have HB:=ae ((HB.o.alloc HB.o.size _).trans h2);clear h2;clear x0 x1 x2 x3 x4;obtain⟨x0,x1,x2,x3,x4⟩:=(HR1.o.below (HB.o) HR1.o.lt).facts))
    go_meet
    case rel=>exact⟨_,_,rfl,rfl,HO,HB⟩
 case rest =>
 obtain⟨v3,w4,rfl,rfl,HO,HB⟩:=hcut;clear x0 x1 x2 x3 x4;obtain⟨x0,x1,x2,x3,x4⟩:=(HR1.o.below HB.o HR1.o.lt).facts;go_upto_region 11 with (fail)
 refine ade (by kernel_rfl) ?_;show wpAnyH _ _ _ _ _ 8 #[false,false,false,false,false,false,false,false] _ _;refine Bp 0 ?_;refine Bp 1 ?_ (hy:=by(intro ig hSw;have hz:=(fun W (hW:Below _ _ W)=>aiS Eb.o (Own.below (Own.drew HO.o) hW (aj _))) ig hSw;go_simp;try(with_reducible rfl)));refine Bp 2 ?_;refine Bp 3 ?_ (hy:=by(intro ig hSw;have hz:=(fun W (hW:Below _ _ W)=>((agy (HR1.o.below HB.o HR1.o.lt)).below hW (eB HR1.o.lt HB.o.size)).facts) ig hSw;go_simp;try(with_reducible rfl)));refine Bp 4 ?_;refine ac0 5 (fun K hK => ?_);go_simp;refine(acY HK.o (by omega) _ (lU.drew (((vB.o.below H0.o).below H1.o).below HB.o))).mono ?_;rintro e w4 ⟨rfl,uK⟩;have cu:=ae (Zv uK);go_wp2_with fail
 refine hK.o _ _ uK uK.size ?_;clear hK K;simp only[Act.put,sT,fV,fU];refine Bp 6 ?_ (hy:=by(intro ig hSw;have hz:=(fun (_:World)(_:Below _ _ _)=>YB.o) ig hSw;go_simp;try(with_reducible rfl)));refine Bp 7 ?_;refine wpAnyH_done (by kernel_rfl) ?_ _;go_wp2_with fail
 go_ret;exact⟨nu (by rw[← Eb.o];exact(nz _ _).trans (congrArg strOfNums HT.o)),yh H0.o H1.o HB.o cu.o⟩
theorem Ob (s:ByteArray)(c r:Int)(ac ar:Bool)(w:World)(nL:lU w)(_hs:s.size≤1000000) :
 Calls Tryz.prog 135 #[.agg #[.string s,.int .i64 c,.int .i64 r,.bool ac,.bool ar]] w fun e w'=>e = .returned (.string (strOfNums (bE (sb s) c r ac ar)))∧Below w.heap.size w w':=by
 by_cases hm:dO (sb s) c r=true
 · obtain⟨hc0,hc1,hr0,hr1⟩:=MF hm
   have hl1:=Tt c;obtain⟨k,hk⟩:∃k:Nat,r+1=(k:Int):=⟨(r+1).toNat,by omega⟩;have hl2:=Mq k;have hz1:(strOfNums (bG c)).size≤2:=by rw[strOfNums_size];exact hl1
   have hz2:(strOfNums (bn k)).size≤1000:=by rw[strOfNums_size];omega
   exact ai8 s c r k ac ar w nL _hs hm hc0 hc1 hr0 hr1 hk hz1 hz2
 · have hm':dO (sb s) c r=false:=by simpa using hm
   have ht:bE (sb s) c r ac ar=[]:=by unfold bE;rw[af hm]
   have HT:=ae ht;clear ht hm nL;go_enter Tryz.func135,Tryz.ntmps135
   go_wp2_with (first
    | (go_at_call 64;((with_reducible refine(Bu _ _ _ _ _ _ ?_).mono ?_);(try omega);rintro e w1 ⟨rfl,h1⟩;have H1:=ae h1;clear h1)))
   go_ret;exact⟨by rw[HT.o];rfl,((ak _ _).alloc (aj _) _).trans (H1.o.mono ((ak _ _).alloc (aj _) _).size)⟩
theorem afu (w:World)(b:Nat)(nv:Value)(st:List aD)(txt:List Int)(n:Nd)(A:Option Addr)(m c:Nat)(h:dW w b nv st txt)(hk:n.kind=1)(u:Nat)(hu:n.num=(u:Int))(Me:u≤9223372036854775807)(nL:lU w)(hl:txt.length≤1000000000) :
 Calls Tryz.prog 100 #[.pointer (some ⟨b,0,none⟩),.agg (aB n (.slice A m c))] w (mX w b nv st txt n):=by
 (try unfold aB)
 have hB:Below w.heap.size w (w.alloc (.cells (aB n (.slice A m c)) 44)):=(ak _ _).alloc (aj _) _;have HN:az (w.alloc (.cells (aB n (.slice A m c)) 44)) w.heap.size n (.slice A m c):=az.new w n _;have hs:eP n=(bn u,[]):=by unfold eP;rw[ag hk,hu];rfl
 have hdl:=Gy 18 u (by omega);have hbw:b<w.heap.size:=by obtain⟨wv,h1, -⟩:=h;exact h1.lt
 have HS:=ae hs;have HB:=ae hB;obtain⟨wv,h1,h2⟩:=h.below hB;have vB:=ae (nL.below hB);have XM:=ae hu;clear h hs hk nL hB hu;go_enter Tryz.func100,Tryz.ntmps100;go_upto_region 1 with (fail)
 generalize hz:w.heap.size=z at HN ⊢;generalize w.alloc (.cells (aB n (.slice A m c)) 44)=w1 at HN HB vB h1 h2 ⊢;have x1:=HN.cells.2.1;rw[XM.o]at x1;have hzl:=HN.lt;have hzb:z≠b:=by omega
 have bV:=ae HN;have HI:=ae (fun wr (hr:Below w1.heap.size w1 wr)=>Td u Me wr (vB.o.below hr));have HW:=ae (fun wr (hr:Below w1.heap.size w1 wr)=>tL wr b nv wv txt (strOfNums (bn u)) (h1.below hr) (by rw[strOfNums_size];omega));have HO:=ae h2;clear hz h1 h2 HN hdl;have H1:=ae ((ak w1.heap.size w1).drew)
 go_region_held3 (fun w'=>w'.cell? ⟨z,1,none⟩=some (.int .i64 (u:Int))) (go_keep) (first
  | (go_at_call 133;((with_reducible refine(HI.o _ H1.o).mono ?_);rintro e w3 ⟨rfl,h3⟩;have H3:=ae (H1.o.trans (h3.mono H1.o.size));have y1:=(H3.o.cell (p:=⟨z,1,none⟩) hzl).trans x1;clear h3))
  | (go_at_call 71;((with_reducible refine(HW.o _ H3.o).mono ?_);rintro e w4 ⟨⟨x,rfl⟩,h3,h4⟩;have vC:=ae h3;have HF:=ae h4;have z1:w4.cell? ⟨z,1,none⟩=some (.int .i64 (u:Int)):=(gK (a:=⟨z,1,none⟩) (HF.o.block z (eB hzl H3.o.size) hzb (.inr fun cur fr e=>by
      have h5:=H3.o.block z hzl;have h6:w1.heap[z]? = some (.cells (bA n (.slice A m c)) 44):=bV.o;rw[h5,h6]at e;injection e with e;injection e with _ e2;exact absurd e2 (by decide)))).trans y1;clear h3 h4)))
 all_goals go_wp2_with fail
 all_goals go_end0
 all_goals exact mX.of (HB.o.trans (H3.o.mono HB.o.size)) (HO.o.below H3.o (aj _)) vC.o HF.o (by rw[HS.o]) (by rw[HS.o,show sb (strOfNums (bn u))=bn u from jN _ (fun x hx=>by have:=jE (rH u x hx);omega)])
theorem af5 (w:World)(b:Nat)(nv:Value)(st:List aD)(txt:List Int)(n:Nd)(A:Option Addr)(m c:Nat)(h:dW w b nv st txt)(hk:n.kind=5)(hz:n.ref.sh.size≤1000000)(nL:lU w)(hl:txt.length≤1000000000) :
 Calls Tryz.prog 104 #[.pointer (some ⟨b,0,none⟩),.agg (aB n (.slice A m c))] w (mX w b nv st txt n):=by
 (try unfold aB)
 have hB:Below w.heap.size w (w.alloc (.cells (aB n (.slice A m c)) 44)):=(ak _ _).alloc (aj _) _;have HN:az (w.alloc (.cells (aB n (.slice A m c)) 44)) w.heap.size n (.slice A m c):=az.new w n _;have hs:eP n=(bE (sb n.ref.sh) n.ref.c n.ref.r n.ref.ac n.ref.ar,[]):=by unfold eP;rw[af (by omega),af (by omega),af (by omega),af (by omega),ag hk]
 have hdl:=zX (sb n.ref.sh) n.ref.c n.ref.r n.ref.ac n.ref.ar;rw[bC]at hdl;have hbw:b<w.heap.size:=by obtain⟨wv,h1, -⟩:=h;exact h1.lt
 have HS:=ae hs;have HB:=ae hB;obtain⟨wv,h1,h2⟩:=h.below hB;have vB:=ae (nL.below hB);clear h hs hk nL hB;go_enter Tryz.func104,Tryz.ntmps104;go_upto_region 1 with (fail)
 generalize hzz:w.heap.size=z at HN ⊢;generalize w.alloc (.cells (aB n (.slice A m c)) 44)=w1 at HN HB vB h1 h2 ⊢;obtain⟨-, -, -,x3,x4,x5,x6,x7, -⟩:=HN.cells;have hzl:=HN.lt;have hzb:z≠b:=by omega
 have bV:=ae HN;have HI:=ae (fun wr (hr:Below w1.heap.size w1 wr)=>Ob n.ref.sh n.ref.c n.ref.r n.ref.ac n.ref.ar wr (vB.o.below hr) hz);have HW:=ae (fun wr (hr:Below w1.heap.size w1 wr)=>tL wr b nv wv txt (strOfNums (bE (sb n.ref.sh) n.ref.c n.ref.r n.ref.ac n.ref.ar)) (h1.below hr) (by rw[strOfNums_size];omega));have HO:=ae h2;clear hzz h1 h2 HN hdl;have H1:=ae ((ak w1.heap.size w1).drew)
 go_region_held3 (fun w'=>w'.cell? ⟨z,3,none⟩=some (.string n.ref.sh)∧w'.cell? ⟨z,4,none⟩=some (.int .i64 n.ref.c)∧w'.cell? ⟨z,5,none⟩=some (.int .i64 n.ref.r)∧w'.cell? ⟨z,6,none⟩=some (.bool n.ref.ac)∧w'.cell? ⟨z,7,none⟩=some (.bool n.ref.ar)) (go_keep) (first
  | (go_at_call 135;((with_reducible refine(HI.o _ H1.o).mono ?_);rintro e w3 ⟨rfl,h3⟩;have H3:=ae (H1.o.trans (h3.mono H1.o.size));have y3:=(H3.o.cell (p:=⟨z,3,none⟩) hzl).trans x3;have y4:=(H3.o.cell (p:=⟨z,4,none⟩) hzl).trans x4;have dH:=(H3.o.cell (p:=⟨z,5,none⟩) hzl).trans x5;have y6:=(H3.o.cell (p:=⟨z,6,none⟩) hzl).trans x6;have ll:=(H3.o.cell (p:=⟨z,7,none⟩) hzl).trans x7;clear h3))
  | (go_at_call 71;((with_reducible refine(HW.o _ H3.o).mono ?_);rintro e w4 ⟨⟨x,rfl⟩,h3,h4⟩;have vC:=ae h3;have HF:=ae h4;have jl:=HF.o.block z (eB hzl H3.o.size) hzb (.inr fun cur fr e=>by
      have h5:=H3.o.block z hzl;have h6:w1.heap[z]? = some (.cells (bA n (.slice A m c)) 44):=bV.o;rw[h5,h6]at e;injection e with e;injection e with _ e2;exact absurd e2 (by decide));have z3:=(gK (a:=⟨z,3,none⟩) jl).trans y3;have z4:=(gK (a:=⟨z,4,none⟩) jl).trans y4;have z5:=(gK (a:=⟨z,5,none⟩) jl).trans dH;have z6:=(gK (a:=⟨z,6,none⟩) jl).trans y6;have z7:=(gK (a:=⟨z,7,none⟩) jl).trans ll;clear h3 h4)))
 all_goals go_wp2_with fail
 all_goals go_end0
 all_goals exact mX.of (HB.o.trans (H3.o.mono HB.o.size)) (HO.o.below H3.o (aj _)) vC.o HF.o (by rw[HS.o]) (by rw[HS.o,show sb (strOfNums (bE (sb n.ref.sh) n.ref.c n.ref.r n.ref.ac n.ref.ar))=bE (sb n.ref.sh) n.ref.c n.ref.r n.ref.ac n.ref.ar from jN _ (AO _ _ _ _ _)])
end Go.Proofs.YtbplbjmmfgjdjaaGreatDoor
namespace Go.Proofs.YtbplbjmmfgjdjaaGreatDoor
open Go.RowKit
theorem af6 (w:World)(b:Nat)(nv:Value)(st:List aD)(txt:List Int)(n:Nd)(A:Option Addr)(m c:Nat)(h:dW w b nv st txt)(hk:n.kind=6)(hz:n.ref.sh.size≤1000000)(hz2:n.ai.sh.size≤1000000)(nL:lU w)(hl:txt.length≤1000000000) :
 Calls Tryz.prog 105 #[.pointer (some ⟨b,0,none⟩),.agg (aB n (.slice A m c))] w (mX w b nv st txt n):=by
 (try unfold aB)
 have hB:Below w.heap.size w (w.alloc (.cells (aB n (.slice A m c)) 44)):=(ak _ _).alloc (aj _) _;have HN:az (w.alloc (.cells (aB n (.slice A m c)) 44)) w.heap.size n (.slice A m c):=az.new w n _;have hs:eP n=(bE (sb n.ref.sh) n.ref.c n.ref.r n.ref.ac n.ref.ar++58 :: bE (sb n.ai.sh) n.ai.c n.ai.r n.ai.ac n.ai.ar,[]):=by unfold eP;rw[af (by omega),af (by omega),af (by omega),af (by omega),af (by omega),ag hk]
 have d1:=zX (sb n.ref.sh) n.ref.c n.ref.r n.ref.ac n.ref.ar;have d2:=zX (sb n.ai.sh) n.ai.c n.ai.r n.ai.ac n.ai.ar;rw[bC]at d1 d2;have hbw:b<w.heap.size:=by obtain⟨wv,h1, -⟩:=h;exact h1.lt
 have y1:=AO n.ref.sh n.ref.c n.ref.r n.ref.ac n.ref.ar;have y2:=AO n.ai.sh n.ai.c n.ai.r n.ai.ac n.ai.ar;have i1:=fun (wr:World)(ht:lU wr)=>Ob n.ref.sh n.ref.c n.ref.r n.ref.ac n.ref.ar wr ht hz
 have i2:=fun (wr:World)(ht:lU wr)=>Ob n.ai.sh n.ai.c n.ai.r n.ai.ac n.ai.ar wr ht hz2
 generalize bE (sb n.ref.sh) n.ref.c n.ref.r n.ref.ac n.ref.ar=l1 at hs d1 y1 i1;generalize bE (sb n.ai.sh) n.ai.c n.ai.r n.ai.ac n.ai.ar=l2 at hs d2 y2 i2;have f1:¬ 9223372036854775807<(strOfNums l1).size+(⟨#[58]⟩:ByteArray).size:=by rw[strOfNums_size];show ¬ _<_+1;omega
 have f2:¬ 9223372036854775807<(strOfNums l1).size+1:=by rw[strOfNums_size];omega
 have f3:(strOfNums l1++(⟨#[58]⟩:ByteArray)).size=l1.length+1:=by rw[ByteArray.size_append,strOfNums_size];rfl
 have f4:¬ 9223372036854775807<(strOfNums l1++(⟨#[58]⟩:ByteArray)).size+(strOfNums l2).size:=by rw[f3,strOfNums_size];omega
 have f5:¬ 9223372036854775807<(strOfNums l1).size+1+(strOfNums l2).size:=by rw[strOfNums_size,strOfNums_size];omega
 have pG:=ae (show strOfNums l1++(⟨#[58]⟩:ByteArray)++strOfNums l2=strOfNums (l1++58 :: l2)by
  rw[show(⟨#[58]⟩:ByteArray)=strOfNums [58]from by decide,nz,nz,bQ];rfl)
 have HS:=ae hs;have HB:=ae hB;obtain⟨wv,h1,h2⟩:=h.below hB;have vB:=ae (nL.below hB);clear h hs hk nL hB;go_enter Tryz.func105,Tryz.ntmps105;go_upto_region 1 with (fail)
 obtain⟨z,hzz⟩:∃z,w.heap.size=z:=⟨_,rfl⟩;obtain⟨w1,hw1⟩:∃w1,w.alloc (.cells (aB n (.slice A m c)) 44)=w1:=⟨_,rfl⟩;rw[hw1]at HN HB vB h1 h2 ⊢;rw[hzz]at HN ⊢;obtain⟨-, -, -,x3,x4,x5,x6,x7,av,aI,aF,aG,aH, -⟩:=HN.cells;have hzl:=HN.lt;have hzb:z≠b:=by omega
 have bV:=ae HN;have HI:=ae (fun wr (hr:Below w1.heap.size w1 wr)=>i1 wr (vB.o.below hr));have HJ:=ae (fun wr (hr:Below w1.heap.size w1 wr)=>i2 wr (vB.o.below hr));have HW:=ae (fun wr (hr:Below w1.heap.size w1 wr)=>tL wr b nv wv txt (strOfNums l1++(⟨#[58]⟩:ByteArray)++strOfNums l2) (h1.below hr) (by rw[ByteArray.size_append,f3,strOfNums_size];omega));have HO:=ae h2;clear hzz hw1 h1 h2 HN d1 d2 i1 i2 f3 hz hz2;have H1:=ae ((ak w1.heap.size w1).drew)
 go_region_held3 (fun w'=>w'.cell? ⟨z,3,none⟩=some (.string n.ref.sh)∧w'.cell? ⟨z,4,none⟩=some (.int .i64 n.ref.c)∧w'.cell? ⟨z,5,none⟩=some (.int .i64 n.ref.r)∧w'.cell? ⟨z,6,none⟩=some (.bool n.ref.ac)∧w'.cell? ⟨z,7,none⟩=some (.bool n.ref.ar)∧w'.cell? ⟨z,8,none⟩=some (.string n.ai.sh)∧w'.cell? ⟨z,9,none⟩=some (.int .i64 n.ai.c)∧w'.cell? ⟨z,10,none⟩=some (.int .i64 n.ai.r)∧w'.cell? ⟨z,11,none⟩=some (.bool n.ai.ac)∧w'.cell? ⟨z,12,none⟩=some (.bool n.ai.ar)) (go_keep) (first
  | (go_at_call 135;((with_reducible refine(HI.o _ H1.o).mono ?_);rintro e w3 ⟨rfl,h3⟩;have H3:=ae (H1.o.trans (h3.mono H1.o.size));have p3:=(H3.o.cell (p:=⟨z,3,none⟩) hzl).trans x3;have p4:=(H3.o.cell (p:=⟨z,4,none⟩) hzl).trans x4;have p5:=(H3.o.cell (p:=⟨z,5,none⟩) hzl).trans x5;have p6:=(H3.o.cell (p:=⟨z,6,none⟩) hzl).trans x6;have p7:=(H3.o.cell (p:=⟨z,7,none⟩) hzl).trans x7;have afU:=(H3.o.cell (p:=⟨z,8,none⟩) hzl).trans av;have M6:=(H3.o.cell (p:=⟨z,9,none⟩) hzl).trans aI;have p10:=(H3.o.cell (p:=⟨z,10,none⟩) hzl).trans aF;have p11:=(H3.o.cell (p:=⟨z,11,none⟩) hzl).trans aG;have p12:=(H3.o.cell (p:=⟨z,12,none⟩) hzl).trans aH;clear h3))
  | (go_at_call 135;((with_reducible refine(HJ.o _ H3.o).mono ?_);rintro e w4 ⟨rfl,h3⟩;have H4:=ae (H3.o.trans (h3.mono H3.o.size));have q3:=(H4.o.cell (p:=⟨z,3,none⟩) hzl).trans x3;have q4:=(H4.o.cell (p:=⟨z,4,none⟩) hzl).trans x4;have q5:=(H4.o.cell (p:=⟨z,5,none⟩) hzl).trans x5;have q6:=(H4.o.cell (p:=⟨z,6,none⟩) hzl).trans x6;have q7:=(H4.o.cell (p:=⟨z,7,none⟩) hzl).trans x7;have kD:=(H4.o.cell (p:=⟨z,8,none⟩) hzl).trans av;have U8:=(H4.o.cell (p:=⟨z,9,none⟩) hzl).trans aI;have U5:=(H4.o.cell (p:=⟨z,10,none⟩) hzl).trans aF;have U6:=(H4.o.cell (p:=⟨z,11,none⟩) hzl).trans aG;have U7:=(H4.o.cell (p:=⟨z,12,none⟩) hzl).trans aH;clear h3))
  | (go_at_call 71;((with_reducible refine(HW.o _ H4.o).mono ?_);rintro e w5 ⟨⟨x,rfl⟩,h3,h4⟩;have vC:=ae h3;have HF:=ae h4;have jl:=HF.o.block z (eB hzl H4.o.size) hzb (.inr fun cur fr e=>by
      have h5:=H4.o.block z hzl;have h6:w1.heap[z]? = some (.cells (bA n (.slice A m c)) 44):=bV.o;rw[h5,h6]at e;injection e with e;injection e with _ e2;exact absurd e2 (by decide));have r3:=(gK (a:=⟨z,3,none⟩) jl).trans q3;have r4:=(gK (a:=⟨z,4,none⟩) jl).trans q4;have r5:=(gK (a:=⟨z,5,none⟩) jl).trans q5;have r6:=(gK (a:=⟨z,6,none⟩) jl).trans q6;have r7:=(gK (a:=⟨z,7,none⟩) jl).trans q7;have r8:=(gK (a:=⟨z,8,none⟩) jl).trans kD;have alp:=(gK (a:=⟨z,9,none⟩) jl).trans U8;have r10:=(gK (a:=⟨z,10,none⟩) jl).trans U5;have r11:=(gK (a:=⟨z,11,none⟩) jl).trans U6;have r12:=(gK (a:=⟨z,12,none⟩) jl).trans U7;clear h3 h4)))
 all_goals go_wp2_with fail
 all_goals go_end0
 all_goals exact mX.of (HB.o.trans (H4.o.mono HB.o.size)) (HO.o.below H4.o (aj _)) vC.o HF.o (by rw[HS.o]) (by rw[HS.o,pG.o,jN _ (by intro x hx;rcases dQ.1 hx with hx|hx;exact y1 x hx;rcases ik.1 hx with rfl|hx;exact⟨by decide,by decide⟩;exact y2 x hx)])
end Go.Proofs.YtbplbjmmfgjdjaaGreatDoor
namespace Go.Proofs
open Go.Shelf
def Tryz.Tj:Go.Shelf.Ren:=⟨fun|155=>134|154=>157|138=>170|165=>171|143=>172|166=>71|197=>173|169=>50|195=>188|218=>189|240=>99|241=>190|219=>191|260=>192|276=>132|277=>206|217=>207|225=>208|224=>209|267=>210|266=>216|314=>217|n=>n,fun|9=>9|3=>3|4=>4|72=>85|0=>0|76=>120|105=>179|21=>21|5=>5|70=>83|20=>20|37=>22|75=>119|127=>125|164=>160|46=>47|119=>206|139=>209|138=>208|146=>216|51=>202|80=>94|n=>n,fun|1=>4|3=>5|4=>6|n=>n⟩
theorem Tryz.adw:Go.Proofs.Lays.n155 Tryz.prog Tryz.Tj:={
 mixed:=by kernel_rfl
 f138:=Tryz.func170.trans (congrArg some (by kernel_rfl))
 f143:=Tryz.func172.trans (congrArg some (by kernel_rfl))
 f154:=Tryz.func157.trans (congrArg some (by kernel_rfl))
 f155:=Tryz.func134.trans (congrArg some (by kernel_rfl))
 f165:=Tryz.func171.trans (congrArg some (by kernel_rfl))
 f166:=Tryz.func71.trans (congrArg some (by kernel_rfl))
 f169:=Tryz.func50.trans (congrArg some (by kernel_rfl))
 f195:=Tryz.func188.trans (congrArg some (by kernel_rfl))
 f197:=Tryz.func173.trans (congrArg some (by kernel_rfl))
 f217:=Tryz.func207.trans (congrArg some (by kernel_rfl))
 f218:=Tryz.func189.trans (congrArg some (by kernel_rfl))
 f219:=Tryz.func191.trans (congrArg some (by kernel_rfl))
 f224:=Tryz.func209.trans (congrArg some (by kernel_rfl))
 f225:=Tryz.func208.trans (congrArg some (by kernel_rfl))
 f240:=Tryz.func99.trans (congrArg some (by kernel_rfl))
 f241:=Tryz.func190.trans (congrArg some (by kernel_rfl))
 f260:=Tryz.func192.trans (congrArg some (by kernel_rfl))
 f266:=Tryz.func216.trans (congrArg some (by kernel_rfl))
 f267:=Tryz.func210.trans (congrArg some (by kernel_rfl))
 f276:=Tryz.func132.trans (congrArg some (by kernel_rfl))
 f277:=Tryz.func206.trans (congrArg some (by kernel_rfl))
 f314:=Tryz.func217.trans (congrArg some (by kernel_rfl))
 t0:=Tryz.underlying0
 a0:=Tryz.isAgg0
 z0:=Tryz.sizeOf0
 v0:=Tryz.zeroValue0
 t3:=Tryz.underlying3
 a3:=Tryz.isAgg3
 z3:=Tryz.sizeOf3
 v3:=Tryz.zeroValue3
 t4:=Tryz.underlying4
 a4:=Tryz.isAgg4
 z4:=Tryz.sizeOf4
 v4:=Tryz.zeroValue4
 t5:=Tryz.underlying5
 a5:=Tryz.isAgg5
 z5:=Tryz.sizeOf5
 v5:=Tryz.zeroValue5
 t9:=Tryz.underlying9
 a9:=Tryz.isAgg9
 z9:=Tryz.sizeOf9
 v9:=Tryz.zeroValue9
 t20:=Tryz.underlying20
 a20:=Tryz.isAgg20
 z20:=Tryz.sizeOf20
 v20:=Tryz.zeroValue20
 t21:=Tryz.underlying21
 a21:=Tryz.isAgg21
 z21:=Tryz.sizeOf21
 v21:=Tryz.zeroValue21
 t37:=Tryz.underlying22
 a37:=Tryz.isAgg22
 z37:=Tryz.sizeOf22
 v37:=Tryz.zeroValue22
 t46:=Tryz.underlying47
 a46:=Tryz.isAgg47
 z46:=Tryz.sizeOf47
 v46:=Tryz.zeroValue47
 t51:=Tryz.underlying202
 a51:=Tryz.isAgg202
 z51:=Tryz.sizeOf202
 v51:=Tryz.zeroValue202
 t70:=Tryz.underlying83
 a70:=Tryz.isAgg83
 z70:=Tryz.sizeOf83
 v70:=Tryz.zeroValue83
 t72:=Tryz.underlying85
 a72:=Tryz.isAgg85
 z72:=Tryz.sizeOf85
 v72:=Tryz.zeroValue85
 t75:=Tryz.underlying119
 a75:=Tryz.isAgg119
 z75:=Tryz.sizeOf119
 v75:=Tryz.zeroValue119
 t76:=Tryz.underlying120
 a76:=Tryz.isAgg120
 z76:=Tryz.sizeOf120
 v76:=Tryz.zeroValue120
 t105:=Tryz.underlying179
 a105:=Tryz.isAgg179
 z105:=Tryz.sizeOf179
 v105:=Tryz.zeroValue179
 t119:=Tryz.underlying206
 a119:=Tryz.isAgg206
 z119:=Tryz.sizeOf206
 t127:=Tryz.underlying125
 a127:=Tryz.isAgg125
 z127:=Tryz.sizeOf125
 v127:=Tryz.zeroValue125
 t138:=Tryz.underlying208
 a138:=Tryz.isAgg208
 z138:=Tryz.sizeOf208
 v138:=Tryz.zeroValue208
 t139:=Tryz.underlying209
 a139:=Tryz.isAgg209
 z139:=Tryz.sizeOf209
 v139:=Tryz.zeroValue209
 t146:=Tryz.underlying216
 a146:=Tryz.isAgg216
 z146:=Tryz.sizeOf216
 v146:=Tryz.zeroValue216
 t164:=Tryz.underlying160
 a164:=Tryz.isAgg160
 z164:=Tryz.sizeOf160
 v164:=Tryz.zeroValue160
 g1:=by kernel_rfl
 g3:=by kernel_rfl
 g4:=by kernel_rfl }
theorem Tryz.Xv:Builder.Extra Tryz.prog Tryz.Tj:={
 sizeBuilder:=by kernel_rfl
 liesBuilder:=by kernel_rfl
 t5:=Tryz.underlying5
 a5:=Tryz.isAgg5
 z5:=Tryz.sizeOf5
 v5:=Tryz.zeroValue5
 infoByte:=by kernel_rfl
 cellsByte:=by kernel_rfl
 sizeByte:=by kernel_rfl
 neB5:=by decide }
open Go.RowKit Go.Lib in
theorem Tryz.strings_ReplaceAll (s old new:ByteArray)(m:Int)(w:World)(hs:s.size<4294967281)(hm:w.cell? ⟨4,0,none⟩=some (.int .i64 m))(h1:1≤old.size)(hlen:s.size+Lib.countB s old*new.size≤140737488355328) :
 Calls Tryz.prog 134 #[.string s,.string old,.string new] w fun e w' =>
  e = .returned (.string ⟨(Lib.replaceAll s.data.toList old.data.toList new.data.toList).toArray⟩)∧Below w.heap.size w w':=Any.strings_ReplaceAll Tryz.adw Tryz.Xv s old new m w hs hm h1 hlen
end Go.Proofs
namespace Go.Proofs.YtbplbjmmfgjdjaaGreatDoor
open Go.RowKit
variable {b:Nat}{w w':World}
theorem Te:∀l:List UInt8,(Lib.index l [34] = -1∧∀x∈l,x≠34)∨∃i:Nat,Lib.index l [34]=i∧i<l.length∧(∀x∈l.take i,x≠34)∧l.drop i=34 :: l.drop (i+1)
 | [] => .inl ⟨rfl,fun x hx=>by cases hx⟩
 | b :: l => by
   by_cases hb:b=34
   · subst hb;exact .inr ⟨0,rfl,by simp,fun x hx=>by simp at hx,rfl⟩
   · have hp:List.isPrefixOf [34] (b :: l)=false:=by
      show((34:UInt8) == b&&List.isPrefixOf [] l)=false;rw[aA.2 (fun e=>hb e.symm)];rfl
     have e:Lib.index (b :: l) [34]=if Lib.index l [34] == -1 then -1 else Lib.index l [34]+1:=by
      rw[Lib.index,af (by rw[hp];decide)]
     rcases Te l with ⟨h1,h2⟩|⟨i,h1,h2,h3,h4⟩
     · refine .inl ⟨by rw[e,h1];rfl,fun x hx => ?_⟩
       rcases ik.1 hx with rfl|hx
       · exact hb
       · exact h2 x hx
     · refine .inr ⟨i+1, ?_,by simp;omega,fun x hx => ?_,by simpa using h4⟩
       · rw[e,h1,af (by intro h;have:=bB.1 h;omega)];rfl
       · rw[List.take_succ_cons]at hx
         rcases ik.1 hx with rfl|hx
         · exact hb
         · exact h3 x hx
def uB:List UInt8→List UInt8
 | []=>[]
 | x :: l=>(if x=34 then [34,34]else [x])++uB l
theorem QE:∀l:List UInt8,(∀x∈l,x≠34)→uB l=l
 | [],_=>rfl
 | x :: l,h=>by
   show(if x=34 then [34,34]else [x])++uB l=x :: l;rw[af (h x (List.mem_cons_self ..)),QE l (fun y hy=>h y (List.mem_cons_of_mem _ hy))];rfl
theorem QD:∀(p r:List UInt8),(∀x∈p,x≠34)→uB (p++34 :: r)=p++[34,34]++uB r
 | [],r,_=>rfl
 | x :: p,r,h=>by
   show(if x=34 then [34,34]else [x])++uB (p++34 :: r)=_;rw[af (h x (List.mem_cons_self ..)),QD p r (fun y hy=>h y (List.mem_cons_of_mem _ hy))];rfl
theorem Nn:∀(n:Nat)(l:List UInt8),l.length≤n→Lib.replaceK [34] [34,34] (Lib.count l [34]) l=uB l∧Lib.count l [34]≤l.length
 | n, l,hn=>by
   rcases Te l with ⟨h1,h2⟩|⟨i,h1,h2,h3,h4⟩
   · rw[Lib.count_miss h1,QE l h2];exact⟨rfl,ek _⟩
   · have hc:=Lib.count_hit (s:=l) (sub:=[34]) (by decide) h1
     have hd:(l.drop (i+1)).length=l.length - (i+1):=lq
     match n with
     | 0=>omega
     | n+1 =>
       obtain⟨e1,e2⟩:=Nn n (l.drop (i+1)) (by omega);have hc2:Lib.count l [34]=Lib.count (l.drop (i+1)) [34]+1:=by rw[hc];show 1+Lib.count (l.drop (i+1)) [34]=_;omega
       refine⟨?_,by omega⟩;rw[hc2,Lib.replaceK_hit _ _ _ _ i h1];show l.take i++[34,34]++Lib.replaceK [34] [34,34] (Lib.count (l.drop (i+1)) [34]) (l.drop (i+1))=_;rw[e1, ← QD _ _ h3, ← h4,List.take_append_drop]
theorem Y8 (l:List UInt8):Lib.replaceAll l [34] [34,34]=uB l:=by
 unfold Lib.replaceAll Lib.replace Lib.replaceNum;rw[af (by decide),ag (.inl (by decide))];exact(Nn l.length l (aj _)).1
theorem QF:∀l:List UInt8,(uB l).map (fun b=>(b.toNat:Int))=fw (l.map fun b=>(b.toNat:Int))
 | []=>rfl
 | x :: l=>by
   show((if x=34 then [34,34]else [x])++uB l).map _=(if (x.toNat:Int)=34 then [34,34]else [(x.toNat:Int)])++fw (l.map _);rw[iL,QF l];by_cases h:x=34
   · subst h;rfl
   · rw[af h,af (fun e=>h (UInt8.toNat_inj.1 (by have:(34:UInt8).toNat=34:=rfl;omega)))];rfl
def q9(w:World):Prop:=∃m,w.cell? ⟨(4:Nat),0,none⟩=some (.int .i64 m)
theorem q9.below (h:q9 w)(hb:Below w.heap.size w w'):q9 w':=by
 obtain⟨m,hm⟩:=h;exact⟨m,(hb.cell (p:=⟨(4:Nat),0,none⟩) (World.block_lt_of_cell? w _ hm)).trans hm⟩
theorem q9.wrote (h:q9 w)(hf:iM w w' b)(hg:4<b):q9 w':=by
 obtain⟨m,hm⟩:=h;exact⟨m,(gK (a:=⟨(4:Nat),0,none⟩) (hf.block _ (World.block_lt_of_cell? w _ hm) (Nat.ne_of_lt hg) (.inl hg))).trans hm⟩
theorem ag2 (s:ByteArray)(hs:s.size≤1000000)(w:World)(hm:q9 w):Calls Tryz.prog 134 #[.string s,.string ⟨#[34]⟩,.string ⟨#[34,34]⟩] w fun e w'=>e = .returned (.string (strOfNums (fw (sb s))))∧Below w.heap.size w w':=by
 obtain⟨m,hm⟩:=hm;have hc:Lib.countB s ⟨#[34]⟩≤s.size:=(Nn _ s.data.toList (aj _)).2;have h:=Tryz.strings_ReplaceAll s ⟨#[34]⟩ ⟨#[34,34]⟩ m w (by omega) hm (by decide) (by have:(⟨#[34,34]⟩:ByteArray).size=2:=rfl;rw[this];omega)
 rw [show(⟨(Lib.replaceAll s.data.toList (⟨#[34]⟩:ByteArray).data.toList (⟨#[34,34]⟩:ByteArray).data.toList).toArray⟩:ByteArray)=strOfNums (fw (sb s))from by
  rw[show(⟨#[34]⟩:ByteArray).data.toList=[34]from rfl,show(⟨#[34,34]⟩:ByteArray).data.toList=[34,34]from rfl,Y8, ← nA ⟨(uB s.data.toList).toArray⟩];congr 1;show(uB s.data.toList).map (fun b=>(b.toNat:Int))=_;rw[QF];rfl]at h
 exact h
theorem iM.below(h:Below w.heap.size w w'):iM w w' b:=⟨h.os,h.tape,h.output,h.size,fun k hk _ _=>h.block k hk⟩
theorem agp (w:World)(b:Nat)(nv:Value)(st:List aD)(txt:List Int)(n:Nd)(A:Option Addr)(m c:Nat)(h:dW w b nv st txt)(hk:n.kind=2)(hz:n.text.size≤1000000)(hmv:q9 w)(hgb:4<b)(hl:txt.length≤1000000000) :
 Calls Tryz.prog 101 #[.pointer (some ⟨b,0,none⟩),.agg (aB n (.slice A m c))] w (mX w b nv st txt n):=by
 (try unfold aB)
 have hB:Below w.heap.size w (w.alloc (.cells (aB n (.slice A m c)) 44)):=(ak _ _).alloc (aj _) _;have HN:az (w.alloc (.cells (aB n (.slice A m c)) 44)) w.heap.size n (.slice A m c):=az.new w n _;have hs:eP n=(34 :: (fw (sb n.text)++[34]),[]):=by unfold eP;rw[af (by omega),ag hk]
 have hd:=KV (sb n.text);rw[bC]at hd;have hbw:b<w.heap.size:=by obtain⟨wv,h1, -⟩:=h;exact h1.lt
 have hby:=KN (sb n.text) (uS n.text);have HS:=ae hs;have HB:=ae hB;obtain⟨wv,h1,h2⟩:=h.below hB;have FV:=ae (hmv.below hB);clear h hs hk hmv hB;go_enter Tryz.func101,Tryz.ntmps101;go_upto_region 1 with (fail)
 obtain⟨z,hzz⟩:∃z,w.heap.size=z:=⟨_,rfl⟩;obtain⟨w1,hw1⟩:∃w1,w.alloc (.cells (aB n (.slice A m c)) 44)=w1:=⟨_,rfl⟩;rw[hw1]at HN HB FV h1 h2 ⊢;rw[hzz]at HN ⊢;have hzl:=HN.lt;have hzb:z≠b:=by omega
 have bV:=ae HN;have HW:=ae (tL w1 b nv wv txt ⟨#[34]⟩ h1 (by show txt.length+1≤_;omega));have HO:=ae h2;clear hzz hw1 h1 h2 HN;go_upto_region 2 with (go_at_call 71;((with_reducible refine HW.o.mono ?_);rintro e w2 ⟨⟨x,rfl⟩,h3,h4⟩;have vC:=ae h3;have HF:=ae h4;clear h3 h4))
 have aM:=ae (show az w2 z n (.slice A m c)by
  unfold az
  rw [HF.o.block z hzl hzb (.inr fun cur fr e=>by
   have h6:w1.heap[z]? = some (.cells (bA n (.slice A m c)) 44):=bV.o;rw[h6]at e;injection e with e;injection e with _ e2;exact absurd e2 (by decide))]
  exact bV.o)
 have X0:=ae (FV.o.wrote HF.o hgb);have x2:=aM.o.cells.2.2.1;have hz2:=aM.o.lt;have HI:=ae (fun wr (hr:Below w2.heap.size w2 wr)=>ag2 n.text hz wr (X0.o.below hr));have HW2:=ae (fun wr (hr:Below w2.heap.size w2 wr)=>tL wr b nv wv (txt++sb ⟨#[34]⟩) (strOfNums (fw (sb n.text))) (vC.o.below hr) (by rw[strOfNums_size,ax];show txt.length+1+_≤_;omega));have H1:=ae ((ak w2.heap.size w2).drew)
 go_region_held3 (fun w'=>w'.cell? ⟨z,2,none⟩=some (.string n.text)) (go_keep) (first
  | (go_at_call 134;((with_reducible refine(HI.o _ H1.o).mono ?_);rintro e w3 ⟨rfl,h3⟩;have H3:=ae (H1.o.trans (h3.mono H1.o.size));have y2:=(H3.o.cell (p:=⟨z,2,none⟩) hz2).trans x2;clear h3))
  | (go_at_call 71;((with_reducible refine(HW2.o _ H3.o).mono ?_);rintro e w4 ⟨⟨x,rfl⟩,h3,h4⟩;have YQ:=ae h3;have eD:=ae h4;have jl:=eD.o.block z (eB hz2 H3.o.size) hzb (.inr fun cur fr e=>by
      have h5:=H3.o.block z hz2;have h6:w2.heap[z]? = some (.cells (bA n (.slice A m c)) 44):=aM.o;rw[h5,h6]at e;injection e with e;injection e with _ e2;exact absurd e2 (by decide));have z2:=(gK (a:=⟨z,2,none⟩) jl).trans y2;clear h3 h4 jl)))
 have HW3:=ae (tL w4 b nv wv _ ⟨#[34]⟩ YQ.o (by rw[ax,ax,jN _ hby];show txt.length+1+_+1≤_;omega));go_wp2_with (go_at_call 71;((with_reducible refine HW3.o.mono ?_);rintro e w5 ⟨⟨x,rfl⟩,h3,h4⟩;have YR:=ae h3;have bq:=ae h4;clear h3 h4))
 go_end0;have XI:=ae (((HF.o).trans (iM.below H3.o)).trans (eD.o.trans bq.o));exact mX.of HB.o HO.o YR.o XI.o (by rw[HS.o]) (by rw[HS.o,jN _ hby,show sb ⟨#[34]⟩=[34]by decide];simp[List.append_assoc])
theorem afN (w:World)(ps:List aD)(cs:Array Value)(hcs:cs.toList=pV.all ps)(hl:ps.length≤1000000):Own pV 90 (w.alloc (.cells cs 90)) 0 (.slice (some ⟨w.heap.size,0,none⟩) ps.length ps.length) ps:=by
 have hs:cs.size=ps.length*3:=by rw[← Array.length_toList,hcs,Enc.mK]
 refine⟨by rw[Enc.mK],.inr ⟨w.heap.size,ps.length,cs,rfl,ek _,(lu w _).1,aj _,by unfold maxLen;omega,hs, ?_⟩⟩;rw[hcs,mP (by rw[Enc.mK];exact aj _)]
theorem lV.one {nv wv wv2:Value}{t1 t2:List Int}(h:lV w b nv wv t1)(h2:lV w b nv wv2 t2):wv2=wv:=by
 obtain⟨ad,bv,h3,_⟩:=h;obtain⟨AA,AL,h4,_⟩:=h2;have e:w.heap[b]? = some (.cells #[nv,wv,ad,bv] 87):=h3;have e2:w.heap[b]? = some (.cells #[nv,wv2,AA,AL] 87):=h4;rw[e]at e2;injection e2 with e2;injection e2 with e2;simp at e2;exact e2.1.symm
theorem BD (w:World)(b:Nat)(nv:Value)(st ps:List aD)(txt:List Int)(cs:Array Value)(k:Nat)(hk:ps.length=k)(hcs:cs.toList=pV.all ps)(h:dW w b nv st txt)(hl1:ps.length≤1000000)(hl2:st.length≤2000000000) :
 Calls Tryz.prog 46 #[.pointer (some ⟨b,0,none⟩),.slice (some ⟨w.heap.size,0,none⟩) k k] (w.alloc (.cells cs 90)) fun e w'=>e = .returned (.tuple #[])∧dW w' b nv (st++ps.reverse) txt∧bI w w' b:=by
 subst hk;have hb:Below w.heap.size w (w.alloc (.cells cs 90)):=(ak _ _).alloc (aj _) _;obtain⟨wv,hws,ho⟩:=h;refine(agl (w.alloc (.cells cs 90)) b nv st ps txt w.heap.size ps.length ⟨wv,hws.below hb,ho.below hb (aj _)⟩ (afN w ps cs hcs hl1) ?_ hl1 hl2).mono ?_
 · intro wv2 h2 e
   rw[(hws.below hb).one h2]at e;have:=(Own.kT ho _ e).2.1;omega
 · rintro e w' ⟨h1,h2,h3⟩
   exact⟨h1,h2,(bI.iP hb).trans h3⟩
theorem EY(i m:Int)(w:World):Calls Tryz.prog 47 #[.int .i64 i,.int .i64 m] w fun e w'=>e = .returned (.agg #[.string ⟨#[]⟩,.int .i64 i,.int .i64 m])∧Below w.heap.size w w':=afF i m w
theorem Iu(t:ByteArray)(w:World):Calls Tryz.prog 73 #[.string t] w fun e w'=>e = .returned (.agg #[.string t,.int .i64 0,.int .i64 0])∧Below w.heap.size w w':=af7 t w
theorem ic.pW {B:Nat}{v:Value}{xs:List Int}(h:ic w B v xs)(hf:bI w w' b)(hB:B≤b)(hw:b<w.heap.size):ic w' B v xs:=by
 obtain⟨A,cap,h1,h2,h3,h4⟩:=h;refine⟨A,cap,h1,h2,h3,h4.imp id ?_⟩;rintro⟨pb,po,e1,e2,e3⟩;exact⟨pb,po,e1,e2,fun j x hj=>(gK (a:=⟨pb,po+j,none⟩) (hf.block pb (by omega) (by omega) (.inl (by omega)))).trans (e3 j x hj)⟩
theorem ae5 (w:World)(b:Nat)(nv:Value)(st:List aD)(txt:List Int)(n:Nd)(A:Option Addr)(m c:Nat)(h:dW w b nv st txt)(hk:n.kind=8)(k0:Int)(hk0:n.kids[0]? = some k0)(hsi:ic w b (.slice A m c) n.kids)(hl:txt.length≤1000000000)(hls:st.length≤2000000000) :
 Calls Tryz.prog 107 #[.pointer (some ⟨b,0,none⟩),.agg (aB n (.slice A m c))] w (mX w b nv st txt n):=by
 (try unfold aB)
 have hB:Below w.heap.size w (w.alloc (.cells (aB n (.slice A m c)) 44)):=(ak _ _).alloc (aj _) _;have HN:az (w.alloc (.cells (aB n (.slice A m c)) 44)) w.heap.size n (.slice A m c):=az.new w n _
 have hs:eP n=([45],[aD.op k0 5]):=by
  unfold eP;rw[af (by omega),af (by omega),af (by omega),af (by omega),af (by omega),af (by omega),af (by omega),ag hk,kg,hk0];rfl
 have hbw:b<w.heap.size:=by obtain⟨wv,h1, -⟩:=h;exact h1.lt
 have LZ:=hsi.below hB (Nat.le_of_lt hbw);obtain⟨A',qA,hsl,hcm, -,hcell⟩:=LZ;injection hsl with e1 e2 e3;have mJ:0<n.kids.length:=(eQ.1 hk0).1;obtain⟨pb,po,hA,hpb,hcl⟩:=hcell.resolve_left (fun e=>by rw[e]at mJ;exact absurd mJ (by decide));have hc0:=hcl 0 k0 hk0;rw[Nat.add_zero]at hc0;have hA2:=e1.trans hA;subst hA2;subst e3;clear e1 hA;have hm0:(0:Int)<(m:Int):=by omega
 have hm1:0<m:=by omega
 have HS:=ae hs;have HB:=ae hB;obtain⟨wv,h1,h2⟩:=h.below hB;clear h hs hk hB hsi e2 hcl mJ hcell hk0;go_enter Tryz.func107,Tryz.ntmps107;go_upto_region 1 with (fail)
 obtain⟨z,hzz⟩:∃z,w.heap.size=z:=⟨_,rfl⟩;obtain⟨w1,hw1⟩:∃w1,w.alloc (.cells (aB n (.slice (some ⟨pb,po,none⟩) m c)) 44)=w1:=⟨_,rfl⟩;rw[hw1]at HN HB h1 h2 hc0 ⊢;rw[hzz]at HN ⊢;have hzl:=HN.lt;have hzb:z≠b:=by omega
 have bV:=ae HN;have HW:=ae (tL w1 b nv wv txt ⟨#[45]⟩ h1 (by show txt.length+1≤_;omega));have HO:=ae h2;clear hzz hw1 h1 h2 HN;go_upto_region 2 with (go_at_call 71;((with_reducible refine HW.o.mono ?_);rintro e w2 ⟨⟨x,rfl⟩,h3,h4⟩;have vC:=ae h3;have HF:=ae h4;clear h3 h4))
 have Rl:az w2 z n (.slice (some ⟨pb,po,none⟩) m c):=by
  unfold az
  rw [HF.o.block z hzl hzb (.inr fun cur fr e=>by
   have h6:w1.heap[z]? = some (.cells (bA n (.slice (some ⟨pb,po,none⟩) m c)) 44):=bV.o;rw[h6]at e;injection e with e;injection e with _ e2;exact absurd e2 (by decide))]
  exact bV.o
 obtain⟨-, -, -, -, -, -, -, -, -, -, -, -, -,aC⟩:=Rl.cells;have AZ:b<w1.heap.size:=eB hbw HB.o.size;have hd0:w2.cell? ⟨pb,po,none⟩=some (.int .i64 k0):=(gK (a:=⟨pb,po,none⟩) (HF.o.block pb (by omega) (by omega) (.inl hpb))).trans hc0
 have Kt:=ae (show dW w2 b nv st (txt++[45])from by
  have h:=dW.wrote HO.o vC.o HF.o;rwa[show sb ⟨#[45]⟩=[45]by decide]at h)
 have qZ:=ae (fun (w3:World)(h3:Below w2.heap.size w2 w3)=>BD w3 b nv st [aD.op k0 5] (txt++[45]) #[.string ⟨#[]⟩,.int .i64 k0,.int .i64 5] 1 rfl rfl (Kt.o.below h3) (by show 1≤1000000;decide) hls);clear Rl hc0
 go_wp2_with (first
  | (go_at_call 47;((with_reducible refine(EY _ _ _).mono ?_);rintro e w3 ⟨rfl,h3⟩;have HB3:=ae h3;clear h3))
  | (go_at_call 46;((with_reducible refine(qZ.o _ HB3.o).mono ?_);rintro e w5 ⟨rfl,h3,h4⟩;have sK:=ae h3;have bq:=ae h4;clear h3 h4)))
 go_end0;refine⟨rfl, ?_,(bI.iP HB.o).trans ((bI.uO HF.o).trans ((bI.iP HB3.o).trans bq.o))⟩;rw[HS.o];exact sK.o
end Go.Proofs.YtbplbjmmfgjdjaaGreatDoor
