import Derived.Test.YtaobhjliflomaaaGreatDoorMW11
set_option maxRecDepth 100000
set_option maxHeartbeats 64000000
namespace Go.Proofs.YtaobhjliflomaaaGreatDoor
def kr(xs ys:List Int)(nb:Int):List Int:=xs.map (bH ys nb)
end Go.Proofs.YtaobhjliflomaaaGreatDoor
namespace Go.Proofs.YtaobhjliflomaaaGreatDoor
theorem vG(xs ys:List Int)(nb:Int):(kr xs ys nb).length=xs.length:=by unfold kr;rw[eB]
theorem NH (xs ys:List Int)(nb:Int)(i:Nat)(h:i<xs.length):(kr xs ys nb).getD i 0=bH ys nb (xs.getD i 0):=by
 unfold kr;rw[jL,gN,getD_some xs i h];rfl
theorem ah0 {xs ys:List Int}{na nb:Int}(hx:yQ (-1) na xs)(hy:yQ (-1) nb ys)(hl:(ys.length:Int)=na):yQ (-1) nb (kr xs ys nb):=by
 have key:∀(i:Nat)(z:Int),(kr xs ys nb)[i]? = some z→z ≠ -1→∃(x:Nat),xs[i]? = some (x:Int)∧ys[x]? = some z:=by
  intro i z hz hn;unfold kr at hz;rw[gN]at hz;cases hxi:xs[i]? with
  | none=>rw[hxi]at hz;cases hz
  | some x =>
    rw[hxi]at hz;have hz:bH ys nb x=z:=dU hz;have hx1:x ≠ -1:=fun e=>by rw[e,LB _ _ _ (by omega)]at hz;exact hn hz.symm
    have h1:=hx.1 i x hxi hx1;obtain⟨k,rfl⟩:∃k:Nat,x=(k:Int):=⟨x.toNat,by omega⟩;rw[uj _ _ _ (by omega)]at hz;exact⟨k,rfl,by rw[← hz];exact getD_some ys k (by omega)⟩
 refine⟨fun i z hz hn => ?_,fun i j z u hij hz hu hnz hnu => ?_⟩
 · obtain⟨x,_,h2⟩:=key i z hz hn
   exact hy.1 x z h2 hn
 · obtain⟨x,h1,h2⟩:=key i z hz hnz
   obtain⟨y,h3,h4⟩:=key j u hu hnu;have:=hx.2 i j _ _ hij h1 h3 (by omega) (by omega);exact hy.2 x y z u (by omega) h2 h4 hnz hnu
theorem VQ (xs ys:List Int)(na nb:Int)(k:Nat)(hl:(ys.length:Int)=na):bH (kr xs ys nb) nb (k:Int)=bH ys nb (bH xs na (k:Int)):=by
 by_cases h:k<xs.length
 · rw[uj _ _ _ (by rw[vG];exact h),uj _ _ _ h,NH _ _ _ _ h]
 · rw[wP _ _ _ (by omega) (by rw[vG];omega),wP xs na _ (by omega) (by omega),wP ys nb _ (by omega) (by omega),vG]
   omega
theorem mf(n:Nat)(a:Int):(eX n a).length=n:=by simp[eX]
theorem Cr (n j:Nat)(a:Int)(h:j<n):(eX n a).getD j 0=if (j:Int)<a then (j:Int)else (j:Int)+1:=by
 unfold eX;rw[jL,gN,List.getElem?_range h];rfl
end Go.Proofs.YtaobhjliflomaaaGreatDoor
namespace Go.Proofs.YtaobhjliflomaaaGreatDoor
open Go.RowKit
variable {d nw:Int}{xs:List Int}{n:Nd}
theorem afg (w:World)(A:Option Addr)(n cap:Nat)(xs:List Int)(nw i:Int)(h:IR w w.heap.size A n cap xs)(hn:n≤2000000)(h0:0≤nw)(h1:nw≤2000000)(hi:i≤4398046511104) :
 Calls Tryz.prog 22 #[.agg #[.slice A n cap,.int .i64 nw],.int .i64 i] w fun e w'=>e = .returned (.int .i64 (bH xs nw i))∧Below w.heap.size w w':=by
 have HB:=ae (o9 30 w (.slice A n cap) nw);have HP:=ae (bP.new 30 w (.slice A n cap) nw);have HX:=ae h;have HL:=ae h.len.1;clear h;by_cases xX:i<0
 · have dF:=ae (LB xs nw i xX)
   go_enter Tryz.func22,Tryz.ntmps22;go_wp2_with fail
   go_ret;exact⟨by rw[dF.o];rfl,HB.o⟩
 · obtain ⟨k,rfl⟩:∃k:Nat,i=(k:Int):=⟨i.toNat,by omega⟩
   by_cases hin:k<n
   · have hii:(k:Int)<(n:Int):=by omega
     have hi0:(0:Int)≤(k:Int):=by omega
     have dF:=ae (uj xs nw k (by rw[HL.o];exact hin));obtain⟨pb,po,rfl,hpb,e0⟩:=GM HX.o hin;obtain⟨x,hx⟩:∃x,xs.getD k 0=x:=⟨_,rfl⟩;rw[hx]at e0 dF;have HE:=ae e0;have DI:=ae hpb;clear e0 hx hpb;go_enter Tryz.func22,Tryz.ntmps22;go_upto_region 1 with (fail)
     obtain⟨w1,hw1⟩:∃w1,w.alloc (.cells #[.slice (some ⟨pb,po,none⟩) n cap,.int .i64 nw] 30)=w1:=⟨_,rfl⟩;rw[hw1]at HB HP ⊢;clear hw1;obtain⟨x0,x1⟩:=HP.o.cells;have x2:w1.cell? ⟨pb,po+k,none⟩=some (.int .i64 x):=(HB.o.cell (p:=⟨pb,po+k,none⟩) DI.o).trans HE.o;go_wp2_with fail
     go_ret;exact⟨by rw[dF.o];rfl,HB.o⟩
   · have hii:¬ (k:Int)<(n:Int):=by omega
     have dF:=ae (wP xs nw (k:Int) (by omega) (by rw[HL.o];omega));have hk:(k:Int)≤4398046511104:=hi;go_enter Tryz.func22,Tryz.ntmps22;go_upto_region 1 with (fail)
     obtain⟨w1,hw1⟩:∃w1,w.alloc (.cells #[.slice A n cap,.int .i64 nw] 30)=w1:=⟨_,rfl⟩;rw[hw1]at HB HP ⊢;clear hw1;obtain⟨x0,x1⟩:=HP.o.cells;go_wp2_with fail
     go_ret;exact⟨by rw[dF.o,HL.o];rfl,HB.o⟩
theorem Zg(n:Nat)(h:n≤1048576):jg (n:Int)=n:=by unfold jg;omega
theorem kX.keeps{w1 w:World}{B b:Nat}{tv:Value}{k:Int}(h:kX w1 w b tv k xs)(hB:B≤b):Below B w1 w:=h.iN (ak _ _) hB (by have:=h.blt;omega)
structure Ja (f:Nd→Nd)(P:Nd→Prop):Prop where
 leaf:∀nd ts,P nd→mJ ts nd→(∀t∈ts,Tok t)→∃us,mJ us (f nd)∧(∀t∈us,Tok t)∧2*(eO us).length≤3*(eO ts).length
 rest:∀nd:Nd,7≤nd.kind→f nd=nd
theorem N8 {n rk d d':Nat}{ts ts' us:List ai}(h:Wr n rk d ts d' ts')(hl:2*(eO us).length≤3*(eO ts).length)(ht:∀t∈ts',Tok t)(hu:∀t∈us,Tok t) :
 ∃iT,Wr n rk d us d' iT∧(∀t∈iT,Tok t)∧2*(eO iT).length≤3*(eO ts').length:=by
 rcases h with ⟨h1,rfl,rfl⟩|⟨h1,rfl,l,r,h2,h3,rfl⟩
 · exact⟨us,.inl ⟨h1,rfl,rfl⟩,hu,hl⟩
 · refine ⟨l :: (us++[r]),.inr ⟨h1,rfl,l,r,h2,h3,rfl⟩,fun t hm => ?_, ?_⟩
   · rcases eY.1 hm with rfl|hm
     · exact ht _ (by simp)
     · rcases dK.1 hm with hm|hm
       · exact hu t hm
       · rw[fA.1 hm];exact ht r (by simp)
   · rw[gG,gG,qH,qH]
     simp only[av];omega
theorem agN {f:Nd→Nd}{P:Nd→Prop}(hf:Ja f P){b:Bool}{base:Nat}{ns:List Nd}{ks:List Int}{ts:List ai}{nK d:Nat}(h:Sh b base ns ks ts nK d) :
 (∀n∈ns,P n)→(∀t∈ts,Tok t)→∃us,Sh b base (ns.map f) ks us nK d∧(∀t∈us,Tok t)∧2*(eO us).length≤3*(eO ts).length:=by
 induction h with
 | leaf base ts nd h =>
   intro hp ht;obtain⟨us,h1,h2,h3⟩:=hf.leaf nd ts (hp nd (by simp)) h ht;exact⟨us,.leaf base us _ h1,h2,h3⟩
 | neg base ns a ts rk d h m hm d' ts' hw ih =>
   intro hp ht;obtain⟨us,h1,h2,h3⟩:=ih (fun n hn=>hp n (List.mem_append_left _ hn)) (fun t h=>ht t (List.mem_cons_of_mem _ ((Db hw).2 t h)));obtain⟨iT,g1,g2,g3⟩:=N8 hw h3 (fun t h=>ht t (List.mem_cons_of_mem _ h)) h2;have e:=Sh.neg base (ns.map f) a us rk d h1 m hm d' iT g1;rw[eB]at e;refine⟨m :: iT, ?_,fun t hm => ?_, ?_⟩
   · rw[gP,List.map_singleton,hf.rest _ (by show(7:Int)≤8;decide)];exact e
   · rcases eY.1 hm with rfl|hm
     · exact ht _ (by simp)
     · exact g2 t hm
   · rw[gG,gG,av,av];omega
 | op base o ho ns ms a b ts us oo lZ d1 d2 h g s hs e1 e2 ts' iT hw gw ih jl =>
   intro hp ht;obtain⟨vs,h1,h2,h3⟩:=ih (fun n hn=>hp n (List.mem_append_left _ hn)) (fun t h=>ht t (List.mem_append_left _ ((Db hw).2 t h)));obtain⟨vs',q1,q2,q3⟩:=N8 hw h3 (fun t h=>ht t (List.mem_append_left _ h)) h2;obtain⟨xs,k1,k2,k3⟩:=jl (fun n hn=>hp n (List.mem_append_right _ (List.mem_append_left _ hn))) (fun t h=>ht t (List.mem_append_right _ (List.mem_cons_of_mem _ ((Db gw).2 t h))));obtain⟨xs',p1,p2,p3⟩:=N8 gw k3 (fun t h=>ht t (List.mem_append_right _ (List.mem_cons_of_mem _ h))) k2;have e:=Sh.op base o ho (ns.map f) (ms.map f) a b vs xs oo lZ d1 d2 h1 (by rw[eB];exact k1) s hs e1 e2 vs' xs' q1 p1;rw[eB,eB]at e;refine⟨vs'++s :: xs', ?_,fun t hm => ?_, ?_⟩
   · rw[gP,gP,List.map_singleton,hf.rest _ (by show(7:Int)≤9+(o:Int);omega)];exact e
   · rcases dK.1 hm with hm|hm
     · exact q2 t hm
     · rcases eY.1 hm with rfl|hm
       · exact ht _ (by simp)
       · exact p2 t hm
   · rw[qH,qH,gG,gG]
     simp only[av];omega
 | call base ns ks ts d h t l r ht h1 h2 hl hr ih =>
   intro hp hk;obtain⟨us,g1,g2,g3⟩:=ih (fun n hn=>hp n (List.mem_append_left _ hn)) (fun u hu=>hk u (List.mem_cons_of_mem _ (List.mem_cons_of_mem _ (List.mem_append_left _ hu))));have e:=Sh.call base (ns.map f) ks us d g1 t l r ht h1 h2 hl hr;rw[eB]at e;refine⟨t :: l :: (us++[r]), ?_,fun u hm => ?_, ?_⟩
   · rw[gP,List.map_singleton,hf.rest _ (by show(7:Int)≤7;decide)];exact e
   · rcases eY.1 hm with rfl|hm
     · exact hk _ (by simp)
     rcases eY.1 hm with rfl|hm
     · exact hk _ (by simp)
     rcases dK.1 hm with hm|hm
     · exact g2 u hm
     · rw[fA.1 hm];exact hk r (by simp)
   · rw[gG,gG,gG,gG,qH,qH]
     simp only[av];omega
 | none base=>intro _ _;exact⟨[],.none base,fun t h=>(by cases h),by decide⟩
 | one base ns a ts rk d h ih =>
   intro hp ht;obtain⟨us,h1,h2,h3⟩:=ih hp ht;exact⟨us,.one base _ a us rk d h1,h2,h3⟩
 | and base ns ms ks b ts us rk d1 d2 h hk c hc g ih jl =>
   intro hp ht;obtain⟨vs,h1,h2,h3⟩:=ih (fun n hn=>hp n (List.mem_append_left _ hn)) (fun t h=>ht t (List.mem_append_left _ h));obtain⟨xs,k1,k2,k3⟩:=jl (fun n hn=>hp n (List.mem_append_right _ hn)) (fun t h=>ht t (List.mem_append_right _ (List.mem_cons_of_mem _ h)));have e:=Sh.and base (ns.map f) (ms.map f) ks b vs xs rk d1 d2 h1 hk c hc (by rw[eB];exact k1);refine⟨vs++c :: xs,by rw[gP];exact e,fun t hm => ?_, ?_⟩
   · rcases dK.1 hm with hm|hm
     · exact h2 t hm
     · rcases eY.1 hm with rfl|hm
       · exact ht _ (by simp)
       · exact k2 t hm
   · rw[qH,qH,gG,gG]
     simp only[av];omega
theorem aal {f:Nd→Nd}{P:Nd→Prop}(hf:Ja f P){s:ByteArray}{ns:List Nd}(h:jc s (.ok ns))(hp:∀n∈ns,P n)(hs:s.size≤180)(ht:cO (ns.map f)=true) :
 2*(cz (ns.map f)).length≤3*s.size∧jc (strOfNums (cz (ns.map f))) (.ok (ns.map f)):=by
 rcases h with ⟨_,h⟩|⟨_,_,h⟩|⟨h0,ts,g,h1,h2⟩
 · cases h
 · cases h
 · have hb:Bytes (sb s):=fun x hx=>sO s x hx
   obtain⟨us,nK,d,a,g1,gd,g3,g4,_⟩:=NK hb h1 h2;rw[bz]at g4;obtain⟨vs,k1,k2,k3⟩:=agN hf g1 hp g3;rw[Bq k1 ht];obtain⟨ws,g,p1,p2⟩:=Ni k1 gd k2;exact⟨by omega,.inr (.inr ⟨by rw[strOfNums_size];omega,ws,g,by rw[jD _ (IX vs k2)];exact p1,p2⟩)⟩
theorem Qj:∀n u:Nat,u≤n→(aV (u+1)).length≤(aV u).length+1∧(aV u).length≤(aV (u+1)).length∧1≤(aV u).length
 | 0,u,h=>by
   obtain rfl:u=0:=by omega
   rw[mr 0 (by omega),mr (0+1) (by omega)];simp
 | n + 1,u,h=>by
   by_cases c:u<10
   · rw[mr u c]
     by_cases d:u+1<10
     · rw[mr _ d];simp
     · rw[qi _ d,show(u+1) / 10=1 by omega,mr 1 (by omega)];simp
   · rw[qi u c,qi (u+1) (by omega),av,av,fE,fE]
     have h1:=Qj n (u / 10) (by omega);by_cases d:(u+1) / 10=u / 10
     · rw[d];omega
     · rw[show(u+1) / 10=u / 10+1 by omega];omega
theorem NG {sh:List Int}{c r r':Int}{ac ar:Bool}(h:cK sh c r=true)(h':cK sh c r'=true)(h1:r≤r')(h2:r'≤r+1) :
 (aZ sh c r' ac ar).length≤(aZ sh c r ac ar).length+1∧2≤(aZ sh c r ac ar).length:=by
 obtain⟨n1,n2,n3,_⟩:=EE h
 have hc:1≤(bB c).length:=by
  unfold bB;rw[ag (by omega)];split <;> simp
 have hd:=Qj (r+1).toNat (r+1).toNat (aj _);unfold aZ;rw[ah h,ah h'];simp only[av];by_cases e:r'=r
 · subst e;omega
 · obtain rfl:r'=r+1:=by omega
   rw[show(r+1+1).toNat=(r+1).toNat+1 by omega];omega
structure Ai (xs:List Int)(nw d:Int):Prop where
 free:∀i:Nat,jw xs i=false
 img:∀i:Int,0≤i→i≤bH xs nw i∧bH xs nw i≤i+d
theorem Z7 (h:∀i:Nat,jw xs i=false)(n lo:Nat):jS xs n lo=lo:=by
 cases n with
 | zero=>rfl
 | succ n=>unfold jS;rw[h];rfl
theorem acr (h:∀i:Nat,jw xs i=false)(n hi:Nat):mO xs n hi=hi:=by
 cases n with
 | zero=>rfl
 | succ n=>unfold mO;rw[h];rfl
theorem ahq (h:∀i:Nat,jw xs i=false)(lo hi:Int)(h0:0≤lo)(h1:lo≤hi):iR xs nw lo hi=(bH xs nw lo,bH xs nw hi,true):=by
 obtain⟨a,rfl⟩:∃a:Nat,lo=(a:Int):=⟨lo.toNat,by omega⟩;obtain⟨b,rfl⟩:∃b:Nat,hi=(b:Int):=⟨hi.toNat,by omega⟩;unfold iR;rw[ag (by omega),Z7 h,ag (by omega),acr h];simp
theorem Wd (k i:Nat):Ai (eX k i) ((k:Int)+1) 1:=by
 refine⟨fun j => ?_,fun j hj => ?_⟩
 · unfold jw
   refine aS fun e => ?_
   obtain⟨hl,_⟩:=dS.1 e;rw[mf]at hl;rw[getD_some _ j (by rw[mf];exact hl),Cr k j i hl]at e;injection e with e;split at e <;> omega
 · obtain ⟨n,rfl⟩:∃n:Nat,j=(n:Int):=⟨j.toNat,by omega⟩
   by_cases c:n<k
   · rw[uj _ _ _ (by rw[mf];exact c),Cr k n i c]
     split <;> omega
   · rw[wP _ _ _ hj (by rw[mf];omega),mf];omega
theorem aiw {ys:List Int}{na nb e:Int}(h:Ai xs na d)(g:Ai ys nb e)(hl:(ys.length:Int)=na):Ai (kr xs ys nb) nb (d+e):=by
 refine⟨fun j => ?_,fun j hj => ?_⟩
 · unfold jw
   refine aS fun q => ?_
   obtain⟨hj,_⟩:=dS.1 q;rw[vG]at hj;rw[getD_some _ j (by rw[vG];exact hj),NH xs ys nb j hj]at q;injection q with q;have h1:=h.img (j:Int) (by omega);rw[uj _ _ _ hj]at h1;have h2:=g.img (xs.getD j 0) (by omega);omega
 · obtain⟨n,rfl⟩:∃n:Nat,j=(n:Int):=⟨j.toNat,by omega⟩
   rw[VQ xs ys na nb n hl];have h1:=h.img (n:Int) hj;have h2:=g.img (bH xs na (n:Int)) (by omega);omega
theorem LD (k i:Nat):yQ (-1) ((k:Int)+1) (eX k i):=by
 refine⟨fun j x hx _ => ?_,fun j l x y hjl hx hy _ _ => ?_⟩
 · obtain⟨hl,_⟩:=dS.1 hx
   rw[mf]at hl;rw[getD_some _ j (by rw[mf];exact hl),Cr k j i hl]at hx;injection hx with hx;split at hx <;> omega
 · obtain⟨hl,_⟩:=dS.1 hx
   obtain⟨hl2,_⟩:=dS.1 hy;rw[mf]at hl hl2;rw[getD_some _ j (by rw[mf];exact hl),Cr k j i hl]at hx;rw[getD_some _ l (by rw[mf];exact hl2),Cr k l i hl2]at hy;injection hx with hx;injection hy with hy;split at hx <;> split at hy <;> omega
theorem Md(k i:Nat)(hk:k≤1048576):Ag (eX k i) ((k:Int)+1):=⟨by rw[mf];omega,by omega,by omega,LD k i⟩
theorem adD (k i j:Nat)(hk:k≤1000):Ag (kr (eX k i) (eX (k+1) j) ((k:Int)+2)) ((k:Int)+2):=by
 refine⟨by rw[vG,mf];omega,by omega,by omega, ?_⟩;refine ah0 (na:=(k:Int)+1) (LD k i) ?_ (by rw[mf];omega);have:=LD (k+1) j;rwa[show((k+1:Nat):Int)+1=(k:Int)+2 by omega]at this
def gV (xs:List Int)(nw:Int)(n:Nd):Nd :=
 if (n.kind=5∨n.kind=6)∧n.ref.sh=⟨#[]⟩then (if n.kind=6 then n.nD (bH xs nw n.ref.r) n.ref.c (bH xs nw n.af.r) n.af.c else { n with ref:=n.ref.goto (bH xs nw n.ref.r) n.ref.c })
 else n
theorem NR (c:(n.kind=5∨n.kind=6)∧n.ref.sh=⟨#[]⟩)(h6:¬ n.kind=6):gV xs nw n={ n with ref:=n.ref.goto (bH xs nw n.ref.r) n.ref.c }:=by
 unfold gV;rw[ah c,ag h6]
theorem NQ (c:(n.kind=5∨n.kind=6)∧n.ref.sh=⟨#[]⟩)(h6:n.kind=6):gV xs nw n=n.nD (bH xs nw n.ref.r) n.ref.c (bH xs nw n.af.r) n.af.c:=by
 unfold gV;rw[ah c,ah h6]
structure DY (R:Int)(n:Nd):Prop where
 sh:n.ref.sh=⟨#[]⟩∨n.ref.sh=⟨#[84]⟩
 r:n.ref.r≤R
 tr:n.af.r≤R
def kH(xs:List Int)(nw:Int)(cx:List Int)(cn:Int):Sf:=⟨⟨#[65]⟩,false,xs,nw,cx,cn⟩
theorem Z6 (xs:List Int)(nw:Int)(cx:List Int)(cn:Int):y8 [kH xs nw cx cn] ⟨#[65]⟩=some (kH xs nw cx cn):=by
 unfold y8;rw[List.find?_cons,aQ (show(kH xs nw cx cn).sh=⟨#[65]⟩from rfl)]
theorem Mc {cx:List Int}{cn R:Int}(h:Ai xs nw d)(hc:wz cx cn)(hR:R+d≤998)(n:Nd)(hn:DY R n)(hk:DW n):mh ⟨#[65]⟩ [kH xs nw cx cn] n=gV xs nw n:=by
 by_cases k:n.kind=5∨n.kind=6
 · by_cases s:n.ref.sh=⟨#[]⟩
   · unfold mh gV
     rw[ag (by omega),ah ⟨k,s⟩,show qx ⟨#[65]⟩ n=⟨#[65]⟩from by unfold qx;rw[ah s],Z6];show(if (jP n (kH xs nw cx cn)).2=true then (jP n (kH xs nw cx cn)).1 else Am)=_;have ha:jP n (kH xs nw cx cn)=if n.kind=6 then (kG n (kH xs nw cx cn),vO n (kH xs nw cx cn)&&bQ (kG n (kH xs nw cx cn)).af)else (qA n (kH xs nw cx cn),bQ (qA n (kH xs nw cx cn)).ref):=rfl
     rw[ha];have h1:=hn.r;have h2:=hn.tr;by_cases h6:n.kind=6
     · obtain ⟨m1,m2,m3,m4⟩:=hk.two h6
       obtain⟨l1,l2,l3,l4⟩:=rC m1;obtain⟨p1,p2,p3,p4⟩:=rC m2;have e1:=ahq (nw:=nw) h.free n.ref.r n.af.r l3 m4;have e2:=hc.span n.ref.c n.af.c l1 m3
       have es:kG n (kH xs nw cx cn)=n.nD (bH xs nw n.ref.r) n.ref.c (bH xs nw n.af.r) n.af.c:=by
        show n.nD (iR xs nw n.ref.r n.af.r).1 (iR cx cn n.ref.c n.af.c).1 (iR xs nw n.ref.r n.af.r).2.1 (iR cx cn n.ref.c n.af.c).2.1=_;rw[e1,e2]
       have eo:vO n (kH xs nw cx cn)=true:=by
        show((iR xs nw n.ref.r n.af.r).2.2&&(iR cx cn n.ref.c n.af.c).2.2)=true;rw[e1,e2];rfl
       have i2:=h.img n.af.r p3
       have em:bQ (kG n (kH xs nw cx cn)).af=true:=by
        rw[es];exact Cx m2 (by omega) (by omega) p1 p2
       rw[ah h6,ah h6,eo,em,es];rfl
     · have m1:=hk.one (by omega)
       obtain⟨l1,l2,l3,l4⟩:=rC m1;have i1:=h.img n.ref.r l3
       have er:qA n (kH xs nw cx cn)={ n with ref:=n.ref.goto (bH xs nw n.ref.r) n.ref.c }:=by
        show { n with ref:=n.ref.goto (bH xs nw n.ref.r) (bH cx cn n.ref.c) }=_;rw[hc.img _ l1]
       have em:bQ (qA n (kH xs nw cx cn)).ref=true:=by
        rw[er];exact Cx m1 (by omega) (by omega) l1 l2
       rw[ag h6,ag h6,em,er];rfl
   · have e:gV xs nw n=n:=by unfold gV;rw[ag (by rintro⟨_,e⟩;exact s e)]
     rw[e];refine adA _ _ n fun t ht => ?_
     rw[fA.1 ht];unfold qx;rw[ag s,hn.sh.resolve_left s];show ¬ (⟨#[65]⟩:ByteArray)=⟨#[84]⟩;decide
 · have e:gV xs nw n=n:=by unfold gV;rw[ag (by rintro⟨e,_⟩;exact k e)]
   rw[e];unfold mh;rw[ah (by omega)]
theorem aix {ys:List Int}{na nb:Int}(hl:(ys.length:Int)=na)(n:Nd)(hk:DW n):gV ys nb (gV xs na n)=gV (kr xs ys nb) nb n:=by
 have ti:∀i:Int,0≤i→bH (kr xs ys nb) nb i=bH ys nb (bH xs na i):=fun i hi=>by
  obtain⟨k,rfl⟩:∃k:Nat,i=(k:Int):=⟨i.toNat,by omega⟩;exact VQ xs ys na nb k hl
 by_cases c:(n.kind=5∨n.kind=6)∧n.ref.sh=⟨#[]⟩
 · by_cases h6:n.kind=6
   · obtain⟨m1,m2,_,_⟩:=hk.two h6
     rw[NQ c h6,NQ c h6,ti _ (rC m1).2.2.1,ti _ (rC m2).2.2.1];exact(NQ (n:=n.nD (bH xs na n.ref.r) n.ref.c (bH xs na n.af.r) n.af.c) c h6).trans rfl
   · have m1:=hk.one (by omega)
     rw[NR c h6,NR c h6,ti _ (rC m1).2.2.1];exact(NR (n:={ n with ref:=n.ref.goto (bH xs na n.ref.r) n.ref.c }) c h6).trans rfl
 · have e1:gV xs na n=n:=by unfold gV;rw[ag c]
   have e2:gV (kr xs ys nb) nb n=n:=by unfold gV;rw[ag c]
   rw[e1,e2];unfold gV;rw[ag c]
theorem aiv {R:Int}(h:Ai xs nw d)(hd:0≤d)(hn:DY R n)(hk:DW n):DY (R+d) (gV xs nw n):=by
 have h1:=hn.r;have h2:=hn.tr;unfold gV;split
 · rename_i c
   split
   · rename_i h6
     obtain⟨m1,m2,_,_⟩:=hk.two h6;have i1:=h.img _ (rC m1).2.2.1;have i2:=h.img _ (rC m2).2.2.1;exact⟨.inl c.2,by show bH xs nw n.ref.r≤_;omega,by show bH xs nw n.af.r≤_;omega⟩
   · rename_i h6
     have i1:=h.img _ (rC (hk.one (by omega))).2.2.1;exact⟨.inl c.2,by show bH xs nw n.ref.r≤_;omega,by show n.af.r≤_;omega⟩
 · exact⟨hn.sh,by omega,by omega⟩
theorem NP {t:ai}(h:t.kind=4):dA t=aZ (sb t.sh) t.c t.r t.ac t.ar:=by
 unfold dA;rw[h,ag (by decide),ag (by decide),ah rfl]
theorem aiu (h:Ai xs nw 1):Ja (gV xs nw) fun n=>DY 40 n∧DW n:=by
 have hz:∀(nd:Nd)(ts:List ai),mJ ts nd→(∀t∈ts,Tok t)→gV xs nw nd=nd→∃us,mJ us (gV xs nw nd)∧(∀t∈us,Tok t)∧2*(eO us).length≤3*(eO ts).length :=
  fun nd ts h1 h2 e=>⟨ts,by rw[e];exact h1,h2,by omega⟩
 have hno:∀nd:Nd,(nd.kind≠5∧nd.kind≠6)→gV xs nw nd=nd:=fun nd hk=>by unfold gV;rw[ag (by rintro⟨e,_⟩;omega)]
 refine⟨fun nd ts hp hl ht => ?_,fun nd hk=>hno nd ⟨by omega,by omega⟩⟩;by_cases s:nd.ref.sh=⟨#[]⟩
 · have hl2:=hl
   cases hl with
   | num t q=>exact hz _ _ hl2 ht (hno _ ⟨by show(1:Int)≠5;decide,by show(1:Int)≠6;decide⟩)
   | text t q=>exact hz _ _ hl2 ht (hno _ ⟨by show(2:Int)≠5;decide,by show(2:Int)≠6;decide⟩)
   | yes t q g=>exact hz _ _ hl2 ht (hno _ ⟨by show(3:Int)≠5;decide,by show(3:Int)≠6;decide⟩)
   | no t q g=>exact hz _ _ hl2 ht (hno _ ⟨by show(3:Int)≠5;decide,by show(3:Int)≠6;decide⟩)
   | dead t q=>exact hz _ _ hl2 ht (hno _ ⟨by show(4:Int)≠5;decide,by show(4:Int)≠6;decide⟩)
   | ref t q =>
     have m1:bQ t.bR=true:=hp.2.one rfl;have hr:t.r≤40:=hp.1.r;have hn:0≤t.c∧t.c≤701∧0≤t.r∧t.r≤998:=rC m1;have i1:=h.img t.r hn.2.2.1;have m2:bQ (t.bR.goto (bH xs nw t.r) t.c)=true:=Cx m1 (by omega) (by omega) hn.1 hn.2.1
     have e:gV xs nw { Nd.zero with kind:=5,ref:=t.bR }={ Nd.zero with kind:=5,ref:=t.bR.goto (bH xs nw t.r) t.c }:=by
      unfold gV;rw[ah ⟨.inl rfl,s⟩,ag (by show ¬ (5:Int)=6;decide)];rfl
     rw[e];refine⟨[oq (t.bR.goto (bH xs nw t.r) t.c)],.ref (oq _) rfl,fun u hu=>by rw[fA.1 hu];exact CY m2, ?_⟩;have hu:=NG (ac:=t.ac) (ar:=t.ar) (show cK (sb t.sh) t.c t.r=true from m1) (show cK (sb t.sh) t.c (bH xs nw t.r)=true from m2) i1.1 i1.2;have e1:dA (oq (t.bR.goto (bH xs nw t.r) t.c))=aZ (sb t.sh) t.c (bH xs nw t.r) t.ac t.ar:=rfl;have e2:eO ([]:List ai)=[]:=rfl;rw[gG,gG,e1,e2,NP q,fF,fF];omega
   | range t c u q hc g hs =>
     obtain⟨m1,m2,m3,m4⟩:=hp.2.two rfl;have m1:bQ t.bR=true:=m1;have m2:bQ u.bR=true:=m2;have hr:t.r≤40:=hp.1.r;have hr2:u.r≤40:=hp.1.tr;have hn:0≤t.c∧t.c≤701∧0≤t.r∧t.r≤998:=rC m1;have hn2:0≤u.c∧u.c≤701∧0≤u.r∧u.r≤998:=rC m2;have i1:=h.img t.r hn.2.2.1;have i2:=h.img u.r hn2.2.2.1;have n1:bQ (t.bR.goto (bH xs nw t.r) t.c)=true:=Cx m1 (by omega) (by omega) hn.1 hn.2.1;have n2:bQ (u.bR.goto (bH xs nw u.r) u.c)=true:=Cx m2 (by omega) (by omega) hn2.1 hn2.2.1;have hrr:t.r≤u.r:=m4;have hcc:t.c≤u.c:=m3
     have hii:bH xs nw t.r≤bH xs nw u.r:=by
      by_cases ee:t.r=u.r
      · rw[ee];exact Int.le_refl _
      · omega
     have e:gV xs nw { Nd.zero with kind:=6,ref:=t.bR, af := u.bR }={ Nd.zero with kind:=6,ref:=t.bR.goto (bH xs nw t.r) t.c, af := u.bR.goto (bH xs nw u.r) u.c }:=by
      unfold gV;rw[ah ⟨.inr rfl,s⟩,ah rfl];rfl
     rw[e];refine⟨[oq (t.bR.goto (bH xs nw t.r) t.c),c,oq (u.bR.goto (bH xs nw u.r) u.c)],.range (oq _) c (oq _) rfl hc rfl (VB hs hii hcc),fun v hv => ?_, ?_⟩
     · rcases eY.1 hv with rfl|hv
       · exact CY n1
       rcases eY.1 hv with rfl|hv
       · exact ht _ (by simp)
       · rw[fA.1 hv];exact CY n2
     · have hu:=NG (ac:=t.ac) (ar:=t.ar) (show cK (sb t.sh) t.c t.r=true from m1) (show cK (sb t.sh) t.c (bH xs nw t.r)=true from n1) i1.1 i1.2
       have hv:=NG (ac:=u.ac) (ar:=u.ar) (show cK (sb u.sh) u.c u.r=true from m2) (show cK (sb u.sh) u.c (bH xs nw u.r)=true from n2) i2.1 i2.2;have e1:dA (oq (t.bR.goto (bH xs nw t.r) t.c))=aZ (sb t.sh) t.c (bH xs nw t.r) t.ac t.ar:=rfl;have e3:dA (oq (u.bR.goto (bH xs nw u.r) u.c))=aZ (sb u.sh) u.c (bH xs nw u.r) u.ac u.ar:=rfl;have e2:eO ([]:List ai)=[]:=rfl;simp only[gG,e1,e2,e3,NP q,NP g,fF,av];omega
 · exact hz _ _ hl ht (by unfold gV;rw[ag (by rintro⟨_,e⟩;exact s e)])
theorem ah1 (t:TypeId)(w:World)(u v x:Value)(m n k:Int):∃w3,((w.alloc (.cells #[u,.int .i64 m] t)).alloc (.cells #[v,.int .i64 n] t)).alloc (.cells #[x,.int .i64 k] t)=w3∧Below w.heap.size w w3∧bP t w3 w.heap.size u m∧bP t w3 (w.heap.size+1) v n∧bP t w3 (w.heap.size+2) x k∧w3.heap.size=w.heap.size+3:=by
 have s1:=jE w (.cells #[u,.int .i64 m] t);have s2:=jE (w.alloc (.cells #[u,.int .i64 m] t)) (.cells #[v,.int .i64 n] t);have s3:=jE ((w.alloc (.cells #[u,.int .i64 m] t)).alloc (.cells #[v,.int .i64 n] t)) (.cells #[x,.int .i64 k] t);have b1:=o9 t w u m;have b2:=o9 t (w.alloc (.cells #[u,.int .i64 m] t)) v n;have b3:=o9 t ((w.alloc (.cells #[u,.int .i64 m] t)).alloc (.cells #[v,.int .i64 n] t)) x k;have p1:=bP.new t w u m;have p2:=bP.new t (w.alloc (.cells #[u,.int .i64 m] t)) v n;have p3:=bP.new t ((w.alloc (.cells #[u,.int .i64 m] t)).alloc (.cells #[v,.int .i64 n] t)) x k;have q1:=(p1.over b2).over b3;have q2:=p2.over b3;have b4:=(b1.trans (b2.mono b1.size)).trans (b3.mono (b1.trans (b2.mono b1.size)).size);rw[s1]at q2;rw[s2,s1]at p3;exact⟨_,rfl,b4,q1,q2,p3,by omega⟩
theorem ahZ (xs ys:List Int)(nb:Int)(i:Nat)(h:i<xs.length):(kr xs ys nb).take i++[bH ys nb (xs.getD i 0)]=(kr xs ys nb).take (i+1):=by
 have h2:i<(kr xs ys nb).length:=by rw[vG];exact h
 rw[List.take_add_one,getD_some _ i h2,NH _ _ _ _ h];rfl
theorem afQ:Tryz.f13.results=#[.cell 4 30]:=by kernel_rfl
theorem aga (w:World)(A:Option Addr)(n cap:Nat)(xs:List Int)(na:Int)(B:Option Addr)(m c:Nat)(ys:List Int)(nb:Int)(h:IR w w.heap.size A n cap xs)(k:IR w w.heap.size B m c ys)(hn:n≤1048577)(hm:m≤2000000)
 (k0:0≤nb) (k1:nb≤2000000) (hx:∀i,i<n→xs.getD i 0≤4398046511104) :
 Calls Tryz.prog 13 #[.agg #[.slice A n cap,.int .i64 na],.agg #[.slice B m c,.int .i64 nb]] w fun e w'=>FW w w' (kr xs ys nb) nb e:=by
 obtain⟨w3,hw3,hb,hp1,hp2,hp3,hsz⟩:=ah1 30 w (.slice A n cap) (.slice B m c) (.slice none 0 0) na nb 0;have HB:=ae hb;have bG:=ae hp1;have dI:=ae hp2;have aY:=ae hp3;have o5:=ae hsz;have HX:=ae (h.lift hb);have jb:=ae (k.lift hb);have HL:=ae h.len.1;have HXB:=ae hx;clear h k hb hp1 hp2 hp3 hsz hx;go_enter Tryz.func13,Tryz.ntmps13;go_upto_region 1 with (fail)
 clear hw3;obtain⟨x0,x1⟩:=dI.o.cells;go_upto_region 2 with (fail)
 clear x0 x1;have dC:=ae (o9 30 w3 (.slice none 0 0) nb);have HI:=ae (kX.nil (bP.new 30 w3 (.slice none 0 0) nb));have zh:=jE w3 (.cells #[.slice none 0 0,.int .i64 nb] 30);obtain⟨w4,hw4⟩:∃w4,w3.alloc (.cells #[.slice none 0 0,.int .i64 nb] 30)=w4:=⟨_,rfl⟩;rw[hw4]at dC HI zh ⊢;clear hw4;rw[o5.o]at HI zh ⊢;have BS:=ae zh;have p9:=ae (bG.o.over dC.o);have lK:=ae (dI.o.over dC.o);have xq:=ae (aY.o.over dC.o);have qJ:=ae (HB.o.trans (dC.o.mono HB.o.size));have nA:=ae (HX.o.below dC.o (aj _));have DN:=ae (jb.o.below dC.o (aj _));clear zh;go_upto_region 3 with (fail)
 go_loopw [6] (fun iv wr=>∃(i:Nat)(A1:Option Addr)(c1:Nat),i≤n∧iv = .int .i64 (i:Int)∧Hid (kX w4 wr (w.heap.size+3) (.slice A1 i c1) nb ((kr xs ys nb).take i)))
  (fun iv _=>n - (intOf iv).toNat)
 case atStart=>exact⟨0,none,0,eP _,rfl,HI⟩
 case round =>
  obtain⟨i,A1,c1,hi,rfl,HA⟩:=hrel;have uP:=ae (show((kr xs ys nb).take i).length=i from by rw[gX,vG,HL.o];omega);have HR1:=ae (HA.o.other p9.o (by omega));have HR2:=ae (HA.o.other lK.o (by omega));have HR3:=ae (HA.o.other xq.o (by omega));obtain⟨x0,x1⟩:=HR1.o.cells;by_cases hlt:i<n
  · have hii:(i:Int)<(n:Int):=by omega
    have hi0:(0:Int)≤(i:Int):=by omega
    have HN:=ae (ahZ xs ys nb i (by rw[HL.o];exact hlt));have Q5:=HXB.o i hlt;have ajP:w3.heap.size=w.heap.size+3:=o5.o;have hkp:Below w3.heap.size w4 wr:=HA.o.keeps (by omega);obtain⟨pb,po,hA,hpb,e0⟩:=GM nA.o hlt;obtain⟨d,hd⟩:∃d,xs.getD i 0=d:=⟨_,rfl⟩;rw[hd]at e0 HN Q5;rw[hA]at x0;have hpr:pb<wr.heap.size:=by have:=HA.o.gr.size;have:=BS.o;omega
    have y0:wr.cell? ⟨pb,po+i,none⟩=some (.int .i64 d):=(hkp.cell (p:=⟨pb,po+i,none⟩) hpb).trans e0;have hrs:w3.heap.size≤wr.heap.size:=by have:=HA.o.gr.size;have:=BS.o;omega
    have XY:=ae (show IR wr wr.heap.size B m c ys from(DN.o.below hkp (aj _)).mono hrs);have WV:=ae (fun (wq:World)(hb:Below wr.heap.size wr wq)=>afg wq B m c ys nb d (XY.o.lift hb) hm k0 k1 Q5);have lI:=ae (Below.drew (ak wr.heap.size wr));obtain⟨z0,z1⟩:=HA.o.cur.cells;obtain⟨u0,u1⟩:=HR2.o.cells;have hb2:w.heap.size+1<wr.heap.size:=HR2.o.lt;have hc2:w.heap.size+3<wr.heap.size:=HA.o.cur.lt;clear hkp hd hA e0 hpb;go_upto_region 5 with (fail)
    go_region_law (first
     | (go_simp;go_at_call 22;(with_reducible refine(WV.o _ lI.o).mono ?_);rintro e w5 ⟨rfl,h1⟩;have dZ:=ae (lI.o.trans (h1.mono lI.o.size));have d3:w5.cell? ⟨w.heap.size+3,0,none⟩=some (.slice A1 i c1):=(dZ.o.cell (p:=⟨w.heap.size+3,0,none⟩) hc2).trans z0;have d4:(w5.alloc (.cells #[.int .i64 (bH ys nb d)] 3)).cell? ⟨w.heap.size+3,0,none⟩=some (.slice A1 i c1):=((dZ.o.alloc dZ.o.size (.cells #[.int .i64 (bH ys nb d)] 3)).cell (p:=⟨w.heap.size+3,0,none⟩) hc2).trans z0;clear h1;dsimp only)
     | (refine IG Elem.pl (aI .i64) rfl (.tmp 18) (.tmp 26) rfl w4.heap.size (.slice A1 i c1) ((kr xs ys nb).take i) ?_ ((HA.o.next (dZ.o.alloc dZ.o.size _)).own) ⟨w5.heap.size,0,none⟩ 1 1 [bH ys nb d] ?_ rfl ?_ ?_ ?_ ?_ ?_;go_simp;go_simp;exact ic _ _ _ rfl;(rw[uP.o];omega);(rw[uP.o];unfold maxLen;omega);(rw[jE];have h1:=dZ.o.size;have h2:=HA.o.gr.size;omega);intro v6 w6 h1 h2 _;obtain⟨A6,c6,hv6⟩:=zx h1;simp only[av,fE,uP.o]at hv6;subst hv6;have pY:=ae h1;have pX:=ae h2;have yB:=ae (HA.o.next (dZ.o.alloc dZ.o.size (.cells #[.int .i64 (bH ys nb d)] 3)));obtain⟨m0,m1⟩:=(yB.o.D5 h2).bS;obtain⟨v0,v1⟩:=(yB.o.D5 h2).cells;clear h1 h2))
    all_goals
     clear m0 m1 v0 v1 x0 x1 y0 z0 z1 d3 d4 u0 u1;go_wp2_with fail
     go_roundw
     case rel=>exact⟨i+1,A6,c6,by omega,by go_num,ae (by have h1:=pY.o;rw[HN.o]at h1;exact yB.o.push h1 pX.o)⟩
     case measure=>simp[intOf];omega
  · have hii:¬ (i:Int)<(n:Int):=by omega
    have hin:i=n:=by omega
    subst hin;obtain⟨y0,y1⟩:=HR3.o.cells;obtain⟨m0,m1⟩:=HR3.o.bS;obtain⟨z0,z1⟩:=HA.o.cur.cells;go_wp2_with fail
    have Eo:(kr xs ys nb).take i=kr xs ys nb:=pW (by rw[vG,HL.o];exact aj _);have ho:=HA.o.own;rw[Eo,BS.o]at ho;refine bodyPost_ret (EJ (HR3.o.oN (.slice A1 i c1) nb) _ _ 4 afQ rfl) rfl ⟨_,rfl, ?_,D6 (HA.o.iN qJ.o (by omega) (by have:=BS.o;omega)) (by omega) _ _⟩;exact(ho.keep (fun g h1 _ _=>Em _ _ _ _ _ (by omega))).mono (by omega)
end Go.Proofs.YtaobhjliflomaaaGreatDoor
namespace Go.Proofs.YtaobhjliflomaaaGreatDoor
open Go
def ja (a:Act)(d:Option Tmp):Value:=match d with
 | some d=>a.tmps.getD d undef
 | none=>undef
def wE (ops:Array Oper):Nat→Nat→List Nat
 | 0,_=>[]
 | f+1,i=>match ops[i]? with
   | none=>[]
   | some o=>(o.after.toList.filter fun e=>Region.binds .any e).flatMap fun e=>e.on :: wE ops f e.on
def Iy (ops:Array Oper)(n:Nat):Bool :=
 (List.range ops.size).all fun i=>match ops[i]? with
   | none=>false
   | some o=>(match o.dst with
      | none=>true
      | some d=>decide (d<n)&&(List.range ops.size).all fun j=>match ops[j]? with
         | none=>true
         | some p=>decide (j=i) || !(p.dst == some d)) &&
     o.after.toList.all fun e => !Region.binds .any e||decide (e.on<i)
def EK (ops:Array Oper)(M:Nat→Bool)(oh:Nat):Bool :=
 (List.range ops.size).all fun i=>match ops[i]? with
   | none=>false
   | some o=>if M i=true then o.after.toList.all fun e => !Region.binds .any e||M e.on else (List.range ops.size).all fun j => !M j||(wE ops oh i).contains j
def zm(ops:Array Oper)(M:Nat→Bool):Array Bool:=((List.range ops.size).map M).toArray
section
variable {P:Program} {ops:Array Oper} {Q:Exit→Act→World→Prop} (M:Nat→Bool) (F:List Nat) (R:World→World→Prop) (T:Nat→Value→World→Prop) (a0:Act) (w0:World)
structure xG (ops:Array Oper)(a:Act)(w:World):Prop where
 rel:R w0 w
 size:a.tmps.size=a0.tmps.size
 rest:{ a with tmps:=a0.tmps }=a0
 slot:∀s,(∀(j:Nat) oj,ops[j]? = some oj→oj.dst≠some s)→a.tmps.getD s undef=a0.tmps.getD s undef
structure yR (ops:Array Oper)(listed:Array Bool)(a:Act)(w:World):Prop where
 act:xG R a0 w0 ops a w
 done:∀(j:Nat) oj,ops[j]? = some oj→listed.getD j true=true→T j (ja a oj.dst) w
 closed:∀(j:Nat) oj,ops[j]? = some oj→listed.getD j true=true→∀e∈oj.after,Region.binds .any e=true→listed.getD e.on false=true
 len:listed.size=ops.size
 o:∀j,j<ops.size→M j=false→listed.getD j true=false
 ne:∀i∈F,∀j∈F,i≠j→∀oi oj,ops[i]? = some oi→ops[j]? = some oj→listed.getD i true=true→listed.getD j true=true→ja a oi.dst≠ja a oj.dst
theorem getD_in {listed:Array Bool}{n i:Nat}(hl:listed.size=n)(hi:i<n)(b c:Bool):listed.getD i b=listed.getD i c:=by
 have:i<listed.size:=by omega
 simp[Array.getD,this]
theorem yR.Pn {listed:Array Bool}{a:Act}{w:World}(h:yR M F R T a0 w0 ops listed a w):∀(f i:Nat)(oi:Oper),ops[i]? = some oi→(∀e∈oi.after,Region.binds .any e=true→listed.getD e.on false=true) →
 ∀j∈wE ops f i,∀oj,ops[j]? = some oj→T j (ja a oj.dst) w
 | 0,_,_,_,_,j,hj,_,_=>by cases hj
 | f + 1,i,oi,hi,hc,j,hj,oj,hoj=>by
   unfold wE at hj;rw[hi]at hj;obtain⟨e,he,AJ⟩:=List.mem_flatMap.1 hj;obtain⟨he1,he2⟩:=List.mem_filter.1 he;have hl:=hc e (by simpa using he1) he2
   have hin:e.on<ops.size:=by
    rcases Nat.lt_or_ge e.on listed.size with h'|h'
    · have:=h.len;omega
    · simp[Array.getD,Nat.not_lt.2 h']at hl
   have hl2:listed.getD e.on true=true:=(getD_in h.len hin true false).trans hl;rcases eY.1 AJ with rfl|AJ
   · exact h.done _ oj hoj hl2
   · obtain⟨oe,hoe⟩:∃oe,ops[e.on]? = some oe:=⟨_,Array.getElem?_eq_getElem hin⟩
     exact yR.Pn h f e.on oe hoe (h.closed _ oe hoe hl2) j AJ oj hoj
theorem U9 {n:Nat}(h:Iy ops n=true){i:Nat}{oi:Oper}(hi:ops[i]? = some oi) :
 (∀d,oi.dst=some d→d<n∧∀(j:Nat) oj,ops[j]? = some oj→oj.dst=some d→j=i)∧∀e∈oi.after,Region.binds .any e=true→e.on<i:=by
 have hlt:=(dn.1 hi).1;have h1:=List.all_eq_true.1 h i (List.mem_range.2 hlt);rw[hi]at h1;simp only[dH]at h1;obtain⟨h1,h2⟩:=h1;refine⟨fun d hd => ?_,fun e he hb => ?_⟩
 · rw[hd]at h1
   simp only[dH,aK]at h1;refine⟨h1.1,fun j oj hj hdj => ?_⟩;have hjl:=(dn.1 hj).1;have h3:=List.all_eq_true.1 h1.2 j (List.mem_range.2 hjl);rw[hj]at h3;simp only[hdj,beq_self_eq_true,Bool.not_true,Bool.or_false,aK]at h3;exact h3
 · have h3:=List.all_eq_true.1 h2 e (by simpa using he)
   rw[hb]at h3
   simpa using h3
theorem Vw {a:Act}{d:Option Tmp}{v:Value}(h:∀s,d=some s→s<a.tmps.size)(hn:d=none→v=undef):ja (a.put d v) d=v:=by
 cases d with
 | none=>exact(hn rfl).symm
 | some s =>
   have:=h s rfl;show(a.tmps.setIfInBounds s v).getD s undef=v;simp[Array.getD,this]
theorem IB {a:Act}{d e:Option Tmp}{v:Value}(h:∀s,d=some s→e≠some s):ja (a.put d v) e=ja a e:=by
 cases d with
 | none=>rfl
 | some s =>
   cases e with
   | none=>rfl
   | some t =>
     have hne:s≠t:=fun e=>h s rfl (by rw[e])
     show(a.tmps.setIfInBounds s v).getD t undef=a.tmps.getD t undef;simp only[Array.getD_eq_getD_getElem?,Array.getElem?_setIfInBounds_ne hne]
def w9(l:Array Bool):Nat:=(l.toList.filter fun b => !b).length
theorem Qu:∀(l:List Bool)(i:Nat),l[i]? = some false→((l.set i true).filter fun b => !b).length+1=(l.filter fun b => !b).length
 | [],_,h=>by simp at h
 | b :: l,0,h=>by
   simp at h;subst h;simp
 | b :: l,i+1,h=>by
   have ih:=Qu l i (by simpa using h);cases b
   · simp;omega
   · simp;omega
theorem ait {l:Array Bool}{i:Nat}(h:l[i]? = some false):w9 (l.setIfInBounds i true)+1=w9 l:=by
 unfold w9;rw[Array.toList_setIfInBounds];exact Qu l.toList i (by simpa using h)
theorem ais {l:Array Bool}(h:w9 l=0)(i:Nat)(hi:i<l.size):l[i]? = some true:=by
 unfold w9 at h;have h1:=List.filter_eq_nil_iff.1 (kV h);have h2:=h1 l[i] (by simp);rw[Array.getElem?_eq_getElem hi];congr 1
 simpa using h2
theorem aeE {oh i:Nat}{oi:Oper}(h:EK ops M oh=true)(hi:ops[i]? = some oi)(hm:M i=true):∀e∈oi.after,Region.binds .any e=true→M e.on=true:=by
 have hlt:=(dn.1 hi).1;have h1:=List.all_eq_true.1 h i (List.mem_range.2 hlt);rw[hi]at h1;simp only[hm,if_true]at h1;intro e he hb;have h3:=List.all_eq_true.1 h1 e (by simpa using he);rw[hb]at h3
 simpa using h3
theorem aeF {oh i:Nat}{oi:Oper}(h:EK ops M oh=true)(hi:ops[i]? = some oi)(hm:M i=false):∀j,j<ops.size→M j=true→j∈wE ops oh i:=by
 have hlt:=(dn.1 hi).1;have h1:=List.all_eq_true.1 h i (List.mem_range.2 hlt);rw[hi]at h1;simp only[hm,Bool.false_eq_true,if_false]at h1;intro j hj xV;have h3:=List.all_eq_true.1 h1 j (List.mem_range.2 hj);rw[xV]at h3
 simpa using h3
theorem yR.Po {listed:Array Bool}{a:Act}{w:World}(h:yR M F R T a0 w0 ops listed a w):∀(f i:Nat)(oi:Oper),ops[i]? = some oi→(∀e∈oi.after,Region.binds .any e=true→listed.getD e.on false=true) →
 ∀j∈wE ops f i,j<ops.size→listed.getD j true=true
 | 0,_,_,_,_,j,hj,_=>by cases hj
 | f + 1,i,oi,hi,hc,j,hj,hlt=>by
   unfold wE at hj;rw[hi]at hj;obtain⟨e,he,AJ⟩:=List.mem_flatMap.1 hj;obtain⟨he1,he2⟩:=List.mem_filter.1 he;have hl:=hc e (by simpa using he1) he2
   have hin:e.on<ops.size:=by
    rcases Nat.lt_or_ge e.on listed.size with h'|h'
    · have:=h.len;omega
    · simp[Array.getD,Nat.not_lt.2 h']at hl
   have hl2:listed.getD e.on true=true:=(getD_in h.len hin true false).trans hl;rcases eY.1 AJ with rfl|AJ
   · exact hl2
   · obtain⟨oe,hoe⟩:∃oe,ops[e.on]? = some oe:=⟨_,Array.getElem?_eq_getElem hin⟩
     exact yR.Po h f e.on oe hoe (h.closed _ oe hoe hl2) j AJ hlt
theorem SA (p:Nat→Bool):∀n:Nat,(∃i,i<n∧p i=true)→∃i,i<n∧p i=true∧∀j,j<i→p j=false
 | 0,h=>by obtain⟨i,h,_⟩:=h;omega
 | n + 1,h=>by
   by_cases c:∃i,i<n∧p i=true
   · obtain⟨i,h1,h2,h3⟩:=SA p n c
     exact⟨i,by omega,h2,h3⟩
   · obtain ⟨i,h1,h2⟩:=h
     have:i=n:=by
      rcases Nat.lt_or_ge i n with h'|h'
      · exact absurd ⟨i,h',h2⟩ c
      · omega
     subst this;refine⟨i,h1,h2,fun j hj => ?_⟩;cases hp:p j with
     | false=>rfl
     | true=>exact absurd ⟨j,hj,hp⟩ c
theorem SY {listed:Array Bool}{a:Act}{w:World}(h:yR M F R T a0 w0 ops listed a w)(aT:∀j,j<ops.size→M j=true→listed.getD j true=true):listed=zm ops M:=by
 apply Array.ext_getElem?;intro i;unfold zm;by_cases hi:i<ops.size
 · have hl:i<listed.size:=by have:=h.len;omega
   have e1:listed[i]? = some (listed.getD i true):=by rw[Array.getElem?_eq_getElem hl];simp[Array.getD,hl]
   rw[e1];simp only[List.getElem?_toArray,gN,List.getElem?_range hi,jo];congr 1;cases hm:M i with
   | true=>exact aT i hi hm
   | false=>exact h.o i hi hm
 · rw[Array.getElem?_eq_none (by have:=h.len;omega)]
   simp only[List.getElem?_toArray,gN];rw[List.getElem?_eq_none (by simp;omega)];rfl
theorem agF {oh:Nat}(hb:Iy ops a0.tmps.size=true)(hp:EK ops M oh=true)(htr:∀u v w,R u v→R v w→R u w)(hT:∀i v w w',T i v w→R w w'→T i v w')(hF:∀i∈F,∀v w,T i v w→∃b,v = .pointer (some ⟨b,0,none⟩)∧b<w.heap.size)
 (ui:∀(i:Nat) oi,ops[i]? = some oi→M i=true→∀a w,xG R a0 w0 ops a w→(∀j∈wE ops oh i,∀oj,ops[j]? = some oj→T j (ja a oj.dst) w) →
   if Region.wanted oi (yielded ops a.tmps)=true then Oper.wp P oi a w (fun a' w'=>∃v,a'=a.put oi.dst v∧(oi.dst=none→v=undef)∧R w w'∧T i v w'∧(i∈F→∃b,v = .pointer (some ⟨b,0,none⟩)∧w.heap.size≤b)) Q else T i undef w∧i ∉ F)
 (hrefl:∀u,R u u)
 (mD:∀a w,xG R a0 w0 ops a w→(∀(j:Nat) oj,ops[j]? = some oj→M j=true→T j (ja a oj.dst) w)→(∀i∈F,∀j∈F,i≠j→M i=true→M j=true→∀oi oj,ops[i]? = some oi→ops[j]? = some oj→ja a oi.dst≠ja a oj.dst)→wpAny P .any ops Q (w9 (zm ops M)) (zm ops M) a w) :
 ∀(fuel:Nat)(listed:Array Bool)(a:Act)(w:World),yR M F R T a0 w0 ops listed a w→w9 listed=fuel→wpAny P .any ops Q fuel listed a w:=by
 intro fuel
 induction fuel with
 | zero =>
   intro listed a w h hu
   have aT:∀j,j<ops.size→M j=true→listed.getD j true=true:=fun j hj _=>by
    have:=ais hu j (by have:=h.len;omega);simp[Array.getD_eq_getD_getElem?,this]
   have e:=SY M F R T a0 w0 h aT;have:=mD a w h.act (fun j oj hj hm=>h.done j oj hj (aT j (dn.1 hj).1 hm)) (fun i hi j hj hij uf xV oi oj hoi hoj=>h.ne i hi j hj hij oi oj hoi hoj (aT i (dn.1 hoi).1 uf) (aT j (dn.1 hoj).1 xV));rw[← e,hu]at this;exact this
 | succ fuel ih =>
   intro listed a w h hu;by_cases aT:∀j,j<ops.size→M j=true→listed.getD j true=true
   · have e:=SY M F R T a0 w0 h aT
     have:=mD a w h.act (fun j oj hj hm=>h.done j oj hj (aT j (dn.1 hj).1 hm)) (fun i hi j hj hij uf xV oi oj hoi hoj=>h.ne i hi j hj hij oi oj hoi hoj (aT i (dn.1 hoi).1 uf) (aT j (dn.1 hoj).1 xV));rw[← e,hu]at this;exact this
   have RD:∃i,i<ops.size∧(M i && !listed.getD i true)=true:=by
    apply Decidable.byContradiction;intro hn;refine aT fun j hj hm => ?_
    cases hl:listed.getD j true with
    | true=>rfl
    | false=>exact absurd ⟨j,hj,by rw[hm,hl];rfl⟩ hn
   refine⟨fun hr => ?_,fun i hi => ?_⟩
   · exfalso
     obtain⟨i,hil,h1,h2⟩:=SA _ _ RD;rw[dH,Bool.not_eq_true']at h1;obtain⟨oi,hoi⟩:∃oi,ops[i]? = some oi:=⟨_,Array.getElem?_eq_getElem hil⟩
     have:i∈Region.ready .any ops listed:=mem_ready.2 ⟨h1.2,oi,hoi,fun e he hbn=>by
      have hlt:=(U9 hb hoi).2 e he hbn;have hme:=aeE M hp hoi h1.1 e he hbn;have h4:=h2 e.on hlt;rw[hme,gL,Bool.not_eq_false']at h4;exact(getD_in h.len (by omega) false true).trans h4⟩
     rw[hr]at this;cases this
   · obtain ⟨h1,oi,hoi,hc⟩:=mem_ready.1 hi
     have hil:=(dn.1 hoi).1
     have uf:M i=true:=by
      cases uf:M i with
      | true=>rfl
      | false =>
        exfalso;obtain⟨j,hjl,hj⟩:=RD;rw[dH,Bool.not_eq_true']at hj;have:=h.Po M F R T a0 w0 oh i oi hoi hc j (aeF M hp hoi uf j hjl hj.1) hjl;rw[hj.2]at this;cases this
     have hlf:listed[i]? = some false:=by
      have hl:=h.len;rw[Array.getElem?_eq_getElem (by omega)];have h1':=h1;rw[Array.getD_eq_getD_getElem?,Array.getElem?_eq_getElem (by omega)]at h1'
      simpa using h1'
     have hs:=ui i oi hoi uf a w h.act (h.Pn M F R T a0 w0 oh i oi hoi hc)
     have next:∀v w',(oi.dst=none→v=undef)→R w w'→T i v w'→(i∈F→∃b,v = .pointer (some ⟨b,0,none⟩)∧w.heap.size≤b)→wpAny P .any ops Q fuel (listed.setIfInBounds i true) (a.put oi.dst v) w':=by
      intro v w' hv hR hTi hFi;obtain⟨hd,_⟩:=U9 hb hoi
      have hsz:(a.put oi.dst v).tmps.size=a.tmps.size:=by
       cases hdd:oi.dst with
       | none=>rfl
       | some d=>show(a.tmps.setIfInBounds d v).size=_;simp
      refine ih _ _ _ ⟨⟨htr _ _ _ h.act.rel hR,hsz.trans h.act.size, ?_,fun s hs => ?_⟩,fun j oj hj hl => ?_,fun j oj hj hl e he hbn => ?_,by rw[Array.size_setIfInBounds];exact h.len,fun j hj hm => ?_,fun p Ld q Lh hpq op Ht hop hoq hlp hlq => ?_⟩ (by have:=ait hlf;omega)
      · rw[← h.act.rest]
        cases hdd:oi.dst <;> rfl
      · rw[← h.act.slot s hs]
        exact IB (e:=some s) (d:=oi.dst) (a:=a) (v:=v) fun t ht he=>hs i oi hoi (by rw[ht,he])
      · by_cases hji:j=i
        · subst hji
          obtain rfl:oi=oj:=dU (hoi.symm.trans hj);rw[Vw (fun s hs=>by rw[h.act.size];exact(hd s hs).1) hv];exact hTi
        · rw [IB fun s hs he=>hji ((hd s hs).2 j oj hj he)]
          have hl':listed.getD j true=true:=by
           rw[Array.getD_eq_getD_getElem?,Array.getElem?_setIfInBounds_ne (Ne.symm hji), ← Array.getD_eq_getD_getElem?]at hl;exact hl
          exact hT _ _ _ _ (h.done j oj hj hl') hR
      · have keep:∀k,listed.getD k false=true→(listed.setIfInBounds i true).getD k false=true:=by
         intro k hk;by_cases hki:k=i
         · subst hki
           have:k<listed.size:=by have:=h.len;omega
           simp[Array.getD,this]
         · rw[Array.getD_eq_getD_getElem?,Array.getElem?_setIfInBounds_ne (Ne.symm hki), ← Array.getD_eq_getD_getElem?]
           exact hk
        by_cases hji:j=i
        · subst hji
          obtain rfl:oi=oj:=dU (hoi.symm.trans hj);exact keep _ (hc e he hbn)
        · have hl':listed.getD j true=true:=by
           rw[Array.getD_eq_getD_getElem?,Array.getElem?_setIfInBounds_ne (Ne.symm hji), ← Array.getD_eq_getD_getElem?]at hl;exact hl
          exact keep _ (h.closed j oj hj hl' e he hbn)
      · have hne:j≠i:=fun e=>by subst e;rw[uf]at hm;cases hm
        rw[Array.getD_eq_getD_getElem?,Array.getElem?_setIfInBounds_ne (Ne.symm hne), ← Array.getD_eq_getD_getElem?];exact h.o j hj hm
      · have other:∀k ok,ops[k]? = some ok→k≠i→(listed.setIfInBounds i true).getD k true=true→listed.getD k true=true∧ja (a.put oi.dst v) ok.dst=ja a ok.dst:=by
         intro k ok hok hki hl;rw[Array.getD_eq_getD_getElem?,Array.getElem?_setIfInBounds_ne (Ne.symm hki), ← Array.getD_eq_getD_getElem?]at hl;exact⟨hl,IB fun s hs he=>hki ((hd s hs).2 k ok hok he)⟩
        have fresh:i∈F→∀k ok,ops[k]? = some ok→k∈F→k≠i→(listed.setIfInBounds i true).getD k true=true→ja (a.put oi.dst v) oi.dst≠ja (a.put oi.dst v) ok.dst:=by
         intro hiF k ok hok hkF hki hl e;obtain⟨k1,k2⟩:=other k ok hok hki hl;rw[k2,Vw (fun s hs=>by rw[h.act.size];exact(hd s hs).1) hv]at e;obtain⟨b,hb1,hb2⟩:=hFi hiF;obtain⟨c,hc1,hc2⟩:=hF k hkF _ _ (h.done k ok hok k1);rw[hb1,hc1]at e;injection e with e;injection e with e;injection e with e;omega
        by_cases hpi:p=i
        · subst hpi
          obtain rfl:oi=op:=dU (hoi.symm.trans hop);exact fresh Ld q Ht hoq Lh (Ne.symm hpq) hlq
        · by_cases hqi:q=i
          · subst hqi
            obtain rfl:oi=Ht:=dU (hoi.symm.trans hoq);exact(fresh Lh p op hop Ld hpi hlp).symm
          · obtain⟨k1,k2⟩:=other p op hop hpi hlp
            obtain⟨k3,k4⟩:=other q Ht hoq hqi hlq;rw[k2,k4];exact h.ne p Ld q Lh hpq op Ht hop hoq k1 k3
     unfold wpOp;rw[hoi];simp only;by_cases hw:Region.wanted oi (yielded ops a.tmps)=true
     · rw[ah hw]at hs
       rw[ah hw]
       left
       refine Oper.wp_mono ?_ hs;rintro a' w' ⟨v,rfl,hv,hR,hTi,hFi⟩;exact next v w' hv hR hTi hFi
     · rw[ag hw]at hs
       rw[ag hw];exact next undef w (fun _=>rfl) (hrefl w) hs.1 (fun h=>absurd h hs.2)
theorem aiW {id:Nat}{w1:World}(oh:Nat)(hm:P.follows .mixedOrders=true)(hw:w1.drew=w0)(hb:Iy ops a0.tmps.size=true)(hp:EK ops M oh=true)(htr:∀u v w,R u v→R v w→R u w)(hrefl:∀u,R u u)(hT:∀i v w w',T i v w→R w w'→T i v w')(hF:∀i∈F,∀v w,T i v w→∃b,v = .pointer (some ⟨b,0,none⟩)∧b<w.heap.size)
 (ui:∀(i:Nat) oi,ops[i]? = some oi→M i=true→∀a w,xG R a0 w0 ops a w→(∀j∈wE ops oh i,∀oj,ops[j]? = some oj→T j (ja a oj.dst) w) →
   if Region.wanted oi (yielded ops a.tmps)=true then Oper.wp P oi a w (fun a' w'=>∃v,a'=a.put oi.dst v∧(oi.dst=none→v=undef)∧R w w'∧T i v w'∧(i∈F→∃b,v = .pointer (some ⟨b,0,none⟩)∧w.heap.size≤b)) Q else T i undef w∧i ∉ F)
 (mD:∀a w,xG R a0 w0 ops a w→(∀(j:Nat) oj,ops[j]? = some oj→M j=true→T j (ja a oj.dst) w)→(∀i∈F,∀j∈F,i≠j→M i=true→M j=true→∀oi oj,ops[i]? = some oi→ops[j]? = some oj→ja a oi.dst≠ja a oj.dst)→wpAny P .any ops Q (w9 (zm ops M)) (zm ops M) a w):(Code.region id ops true).wp P Q a0 w1:=by
 subst hw;have hlf:∀j,j<ops.size→(Array.replicate ops.size false).getD j true=false:=fun j hj=>by simp[Array.getD,hj]
 have hno:∀(j:Nat) oj,ops[j]? = some oj→(Array.replicate ops.size false).getD j true=true→False:=fun j oj hj h=>by
  rw[hlf j (dn.1 hj).1]at h;cases h
 refine wp_region_any hm (agF M F R T a0 w1.drew hb hp htr hT hF ui hrefl mD _ _ _ _ ⟨⟨hrefl _,rfl,rfl,fun _ _=>rfl⟩,fun j oj hj h=>(hno j oj hj h).elim,fun j oj hj h=>(hno j oj hj h).elim,by simp,fun j hj _=>hlf j hj,fun i _ _ _ _ oi _ hoi _ hl _=>(hno i oi hoi hl).elim⟩ ?_);unfold w9;simp
theorem xG.is {a:Act}{w:World}(h:xG R a0 w0 ops a w):a=(List.range ops.size).foldl (fun b j=>b.put ((ops[j]?).bind (·.dst)) (ja a ((ops[j]?).bind (·.dst)))) a0:=by
 have key:∀(l:List Nat)(b:Act),(l.foldl (fun b j=>b.put ((ops[j]?).bind (·.dst)) (ja a ((ops[j]?).bind (·.dst)))) b).tmps.size=b.tmps.size ∧
  { (l.foldl (fun b j=>b.put ((ops[j]?).bind (·.dst)) (ja a ((ops[j]?).bind (·.dst)))) b)with tmps:=a0.tmps }={ b with tmps:=a0.tmps } ∧
  ∀s,s<b.tmps.size→(l.foldl (fun b j=>b.put ((ops[j]?).bind (·.dst)) (ja a ((ops[j]?).bind (·.dst)))) b).tmps.getD s undef=if (l.any fun j=>(ops[j]?).bind (·.dst) == some s)=true then a.tmps.getD s undef else b.tmps.getD s undef:=by
  intro l
  induction l with
  | nil=>intro b;exact⟨rfl,rfl,fun s _=>rfl⟩
  | cons j l ih =>
    intro b;rw[List.foldl_cons];obtain⟨h1,h2,h3⟩:=ih (b.put ((ops[j]?).bind (·.dst)) (ja a ((ops[j]?).bind (·.dst))));generalize hd:(ops[j]?).bind (·.dst)=d at h1 h2 h3 ⊢
    have hsz:(b.put d (ja a d)).tmps.size=b.tmps.size:=by
     cases d with
     | none=>rfl
     | some d=>show(b.tmps.setIfInBounds d _).size=_;simp
    refine⟨h1.trans hsz,h2.trans (by cases d <;> rfl),fun s hs => ?_⟩;rw[h3 s (by omega),List.any_cons,hd];by_cases hds:d=some s
    · subst hds
      have e:(b.put (some s) (ja a (some s))).tmps.getD s undef=a.tmps.getD s undef:=by
       show(b.tmps.setIfInBounds s (a.tmps.getD s undef)).getD s undef=_;simp[Array.getD,hs]
      rw[e];simp
    · have e:(b.put d (ja a d)).tmps.getD s undef=b.tmps.getD s undef:=IB (e:=some s) (d:=d) (a:=b) (v:=ja a d) fun t ht he=>hds (by rw[ht,he])
      have e2:(d == some s)=false:=by simpa using hds
      rw[e,e2,Bool.false_or]
 obtain⟨k1,k2,k3⟩:=key (List.range ops.size) a0;generalize hf:(List.range ops.size).foldl (fun b j=>b.put ((ops[j]?).bind (·.dst)) (ja a ((ops[j]?).bind (·.dst)))) a0=f at k1 k2 k3
 have ht:a.tmps=f.tmps:=by
  apply Array.ext
  · rw[h.size,k1]
  · intro s hs1 hs2
    have e1:=k3 s (by omega);have e2:f.tmps.getD s undef=f.tmps[s]:=by simp[Array.getD,hs2]
    have e3:a.tmps.getD s undef=a.tmps[s]:=by simp[Array.getD,hs1]
    have e4:a.tmps.getD s undef=f.tmps.getD s undef:=by
     rw[e1];by_cases hn:((List.range ops.size).any fun j=>(ops[j]?).bind (·.dst) == some s)=true
     · rw[ah hn]
     · rw[ag hn]
       refine h.slot s fun j oj hj hdj=>hn ?_
       rw[List.any_eq_true];exact⟨j,List.mem_range.2 (dn.1 hj).1,by rw[hj];simp[hdj]⟩
    exact e3.symm.trans (e4.trans e2)
 have e1:a={ ({ a with tmps:=a0.tmps }:Act)with tmps:=a.tmps }:=rfl;have e2:f={ ({ f with tmps:=a0.tmps }:Act)with tmps:=f.tmps }:=rfl;rw[e1,e2,h.rest,k2,ht]
def kT:List (Option Tmp)→Nat→(Nat→Value)→Act→Act
 | [],_,_,a=>a
 | d :: ds,i,x,a=>kT ds (i+1) x (a.put d (x i))
theorem Ut (ops:Array Oper)(x:Nat→Value):∀(l:List Oper)(k:Nat)(a:Act),(∀i,l[i]? = ops[k+i]?) →
 kT (l.map (·.dst)) k x a=(List.range' k l.length).foldl (fun b j=>b.put ((ops[j]?).bind (·.dst)) (x j)) a
 | [],_,_,_=>rfl
 | o :: l,k,a,h=>by
   have h0:=h 0;simp only[List.getElem?_cons_zero,Nat.add_zero]at h0
   rw [jM,kT,Ut ops x l (k+1) _ (fun i=>by
    have:=h (i+1);rw[List.getElem?_cons_succ]at this;rw[this];congr 1;omega),aX,List.range'_succ,List.foldl_cons, ← h0]
   rfl
theorem xG.Us {a:Act}{w:World}(h:xG R a0 w0 ops a w)(ds:List (Option Tmp))(hds:ops.toList.map (·.dst)=ds):a=kT ds 0 (fun j=>ja a ((ops[j]?).bind (·.dst))) a0:=by
 have h1:=h.is;rw[← hds,Ut ops _ ops.toList 0 a0 (fun i=>by simp)];rw[List.range_eq_range']at h1
 simpa using h1
theorem aiX {id:Nat}{w1:World}(ds:List (Option Tmp))(oh:Nat)(hds:ops.toList.map (·.dst)=ds)(hm:P.follows .mixedOrders=true)(hw:w1.drew=w0)(hb:Iy ops a0.tmps.size=true)(hp:EK ops M oh=true)(htr:∀u v w,R u v→R v w→R u w)(hrefl:∀u,R u u)(hT:∀i v w w',T i v w→R w w'→T i v w')(hF:∀i∈F,∀v w,T i v w→∃b,v = .pointer (some ⟨b,0,none⟩)∧b<w.heap.size)
 (ui:∀(i:Nat) oi,ops[i]? = some oi→M i=true→∀(x:Nat→Value) w,R w0 w→(∀j∈wE ops oh i,j<ops.size→T j (x j) w) →
   if Region.wanted oi (yielded ops (kT ds 0 x a0).tmps)=true then ∀K:Act→World→Prop,Shut (∀v w',(oi.dst=none→v=undef)→R w w'→T i v w'→(i∈F→∃b,v = .pointer (some ⟨b,0,none⟩)∧w.heap.size≤b)→K ((kT ds 0 x a0).put oi.dst v) w')→Oper.wp P oi (kT ds 0 x a0) w K Q else T i undef w∧i ∉ F)
 (mD:∀(x:Nat→Value) w,R w0 w→(∀j,j<ops.size→M j=true→T j (x j) w)→(∀i∈F,∀j∈F,i≠j→M i=true→M j=true→i<ops.size→j<ops.size→x i≠x j)→wpAny P .any ops Q (w9 (zm ops M)) (zm ops M) (kT ds 0 x a0) w):(Code.region id ops true).wp P Q a0 w1:=by
 refine aiW M F R T a0 w0 oh hm hw hb hp htr hrefl hT hF ?_ ?_
 · intro i oi hi uf a w hs hd
   have ha:=hs.Us R a0 w0 ds hds
   have h1:=ui i oi hi uf (fun j=>ja a ((ops[j]?).bind (·.dst))) w hs.rel (fun j hj hlt=>by
    have h2:=hd j hj _ (Array.getElem?_eq_getElem hlt);rw[Array.getElem?_eq_getElem hlt];exact h2)
   rw[← ha]at h1;by_cases hw:Region.wanted oi (yielded ops a.tmps)=true
   · rw[ah hw]at h1 ⊢
     exact h1 _ (fun v w' h2 h3 h4 h5=>⟨v,rfl,h2,h3,h4,h5⟩)
   · rw[ag hw]at h1 ⊢
     exact h1
 · intro a w hs hd hne
   have ha:=hs.Us R a0 w0 ds hds
   have h1:=mD (fun j=>ja a ((ops[j]?).bind (·.dst))) w hs.rel (fun j hlt xV=>by
    have h2:=hd j _ (Array.getElem?_eq_getElem hlt) xV;rw[Array.getElem?_eq_getElem hlt];exact h2) (fun i hi j hj hij uf xV hil hjl=>by
    have h2:=hne i hi j hj hij uf xV _ _ (Array.getElem?_eq_getElem hil) (Array.getElem?_eq_getElem hjl);rw[Array.getElem?_eq_getElem hil,Array.getElem?_eq_getElem hjl];exact h2)
   rw[← ha]at h1;exact h1
end
end Go.Proofs.YtaobhjliflomaaaGreatDoor
namespace Go.Proofs.YtaobhjliflomaaaGreatDoor
open Go.RowKit
def tH (kk i j b p:Nat)(w0:World):Nat→Value→World→Prop
 | 0,v,_=>v = .int .i64 (kk:Int)
 | 1,v,_=>v = .int .u8 (b:Int)
 | 2,v,_=>v = .int .i64 (b:Int)
 | 3,v,_=>v = .int .i64 (kk:Int)
 | 4,v,_=>v = .int .i64 (i:Int)
 | 5,v,w=>∃D d,v = .agg #[.slice D kk d,.int .i64 ((kk:Int)+1)]∧Own (aI .i64) 3 w w0.heap.size (.slice D kk d) (eX kk i)
 | 6,v,_=>v = .int .i64 (kk:Int)
 | 7,v,_=>v = .int .i64 ((kk:Int)+1)
 | 8,v,_=>v = .int .u8 (p:Int)
 | 9,v,_=>v = .int .i64 (p:Int)
 | 10,v,_=>v = .int .i64 (kk:Int)
 | 11,v,_=>v = .int .i64 ((kk:Int)+1)
 | 12,v,_=>v = .int .i64 (j:Int)
 | 13,v,w=>∃D d,v = .agg #[.slice D (kk+1) d,.int .i64 ((kk:Int)+2)]∧Own (aI .i64) 3 w w0.heap.size (.slice D (kk+1) d) (eX (kk+1) j)
 | 14,v,w=>∃r,v = .pointer (some ⟨r,0,none⟩)∧bP 30 w r (.slice none 0 0) 0∧w0.heap.size≤r
 | 15,v,w=>∃r,v = .pointer (some ⟨r,0,none⟩)∧bP 30 w r (.slice none 0 0) 0∧w0.heap.size≤r
 | _,_,_=>True
theorem tH.stable (kk i j b p:Nat)(w0:World)(n:Nat)(v:Value)(w w':World)(h:tH kk i j b p w0 n v w)(hr:Below w.heap.size w w'):tH kk i j b p w0 n v w':=by
 match n,h with
 | 0,h=>exact h
 | 1,h=>exact h
 | 2,h=>exact h
 | 3,h=>exact h
 | 4,h=>exact h
 | 5,⟨D,d,e,h⟩=>exact⟨D,d,e,h.below hr (aj _)⟩
 | 6,h=>exact h
 | 7,h=>exact h
 | 8,h=>exact h
 | 9,h=>exact h
 | 10,h=>exact h
 | 11,h=>exact h
 | 12,h=>exact h
 | 13,⟨D,d,e,h⟩=>exact⟨D,d,e,h.below hr (aj _)⟩
 | 14,⟨r,e,h1,h2⟩=>exact⟨r,e,h1.over hr,h2⟩
 | 15,⟨r,e,h1,h2⟩=>exact⟨r,e,h1.over hr,h2⟩
 | _+16,_=>trivial
theorem tH.fresh (kk i j b p:Nat)(w0:World):∀n∈[14,15],∀v w,tH kk i j b p w0 n v w→∃q,v = .pointer (some ⟨q,0,none⟩)∧q<w.heap.size:=by
 intro n hn v w h;simp only[eY,List.not_mem_nil,or_false]at hn;rcases hn with rfl|rfl
 · obtain⟨r,e,h1,_⟩:=h;exact⟨r,e,h1.lt⟩
 · obtain⟨r,e,h1,_⟩:=h;exact⟨r,e,h1.lt⟩
theorem ain {ns:List Nd}(h:qP ns){p:ByteArray}(hp:jc p (.ok ns))(hs:(iq++p).size≤150)(k i j:Nat)(hk:k≤1000) :
 ∃u,uD ⟨#[65]⟩ [kH (eX k i) ((k:Int)+1) (gu 5) 5] ns=iq++u∧(iq++u).size≤300∧(∃ms,jc u (.ok ms)∧strOfNums (cz ms)=u∧uD ⟨#[65]⟩ [kH (eX (k+1) j) ((k:Int)+2) (gu 5) 5] ms=uD ⟨#[65]⟩ [kH (kr (eX k i) (eX (k+1) j) ((k:Int)+2)) ((k:Int)+2) (gu 5) 5] ns):=by
 obtain⟨⟨_,_,ht⟩,_,_⟩:=BX p ns hp;have hok:=UK ht;have hsm:∀n∈ns,DY 40 n:=fun n hn=>⟨(h.jX n hn).1,(h.jX n hn).2.1,(h.jX n hn).2.2⟩
 have hid:wz (gu 5) 5:=⟨5,rfl,rfl⟩;have ua:=Wd k i;have ub:=Wd (k+1) j;rw[show((k+1:Nat):Int)+1=(k:Int)+2 by omega]at ub;have hl:((eX (k+1) j).length:Int)=(k:Int)+1:=by rw[mf];omega
 have uc:=aiw ua ub hl
 have e1:mg ⟨#[65]⟩ [kH (eX k i) ((k:Int)+1) (gu 5) 5] ns=ns.map (gV (eX k i) ((k:Int)+1)):=by
  unfold mg;exact List.map_congr_left fun n hn=>Mc ua hid (by decide) n (hsm n hn) (hok n hn)
 have RJ:cO (ns.map (gV (eX k i) ((k:Int)+1)))=true:=by
  rw[← e1];exact TD ht fun s hs=>by rw[fA.1 hs];exact⟨Md k i (by omega),He 5⟩
 have hz:(iq++p).size=1+p.size:=by rw[ByteArray.size_append];rfl
 obtain⟨hg,hpm⟩:=aal (aiu ua) hp (fun n hn=>⟨hsm n hn,hok n hn⟩) (by omega) RJ
 have hz2:(iq++strOfNums (cz (ns.map (gV (eX k i) ((k:Int)+1))))).size≤300:=by
  rw[ByteArray.size_append,strOfNums_size,show iq.size=1 from rfl];omega
 refine⟨strOfNums (cz (ns.map (gV (eX k i) ((k:Int)+1)))), ?_,hz2,ns.map (gV (eX k i) ((k:Int)+1)),hpm,rfl, ?_⟩
 · unfold uD;rw[e1,ah hz2]
 · have e2:mg ⟨#[65]⟩ [kH (eX (k+1) j) ((k:Int)+2) (gu 5) 5] (ns.map (gV (eX k i) ((k:Int)+1)))=mg ⟨#[65]⟩ [kH (kr (eX k i) (eX (k+1) j) ((k:Int)+2)) ((k:Int)+2) (gu 5) 5] ns:=by
    unfold mg;rw[List.map_map];refine List.map_congr_left fun n hn => ?_
    have h1:=aiv ua (by decide) (hsm n hn) (hok n hn);show mh _ _ (gV _ _ n)=_;rw[Mc ub hid (R:=40+1) (by decide) _ h1 (UK RJ _ (uG hn)),Mc uc hid (R:=40) (by decide) n (hsm n hn) (hok n hn)];exact aix hl n (hok n hn)
   unfold uD;rw[e2]
theorem R4 (k i:Nat)(h:i≤k)(hk:k≤1048576):xZ k i=(eX k i,(k:Int)+1):=by
 unfold xZ;rw[Zg k hk,ag (by omega)]
theorem Mw (w:World)(D D2:Option Addr)(d d2:Nat)(xs cx:List Int)(nw cn:Int){L L2:Nat}(hl:xs.length=L)(hl2:cx.length=L2)(h:IR w w.heap.size D L d xs)(h2:IR w w.heap.size D2 L2 d2 cx) :
 ∃w',w.alloc (.cells #[.string ⟨#[65]⟩,.slice D L d,.int .i64 nw,.slice D2 L2 d2,.int .i64 cn,.bool false] 33)=w'∧Below w.heap.size w w'∧w'.heap.size=w.heap.size+1∧∃x:bK,x.s=kH xs nw cx cn∧o6 w' w'.heap.size (.slice (some ⟨w.heap.size,0,none⟩) 1 1) [x]:=by
 subst hl;subst hl2;have h3:=Vg w ⟨kH xs nw cx cn,D,d,D2,d2,by show(⟨#[65]⟩:ByteArray).size≤maxLen;decide⟩ ⟨h,h2⟩;exact⟨_,rfl,Below.alloc (ak _ _) (aj _) _,jE ..,_,rfl,h3.mono (by rw[jE];exact aj _)⟩
theorem adx (w:World)(A:Option Addr)(n cap:Nat)(a b p:Nat)(hno:30<n)(hx:rV w) :
 Calls Tryz.prog 4 #[.slice A n cap,.int .u8 (a:Int),.int .u8 (b:Int),.int .u8 (p:Int)] w fun e w'=>e = .returned (.bool true)∧Below w.heap.size w w':=by
 have HA:=ae (Px w hx);have h1:(30:Int)<(n:Int):=by omega
 clear hx hno;go_enter Tryz.func4,Tryz.ntmps4
 go_wp2_with (first
  | (go_at_call 5;((with_reducible refine HA.o.mono ?_);rintro e w1 ⟨rfl,hq⟩;have H1:=ae hq;clear hq)))
 go_ret;exact⟨rfl,H1.o⟩
structure Fj (w0 dX:World)(r z kk i j:Nat)(D E:Option Addr)(d e:Nat):Prop where
 p1:bP 30 dX r (.slice D kk d) ((kk:Int)+1)
 p2:bP 30 dX z (.slice E (kk+1) e) ((kk:Int)+2)
 i1:IR dX dX.heap.size D kk d (eX kk i)
 i2:IR dX dX.heap.size E (kk+1) e (eX (kk+1) j)
 iN:Below w0.heap.size w0 dX
theorem Fj.next {w0 w1 w2:World}{r z kk i j:Nat}{D E:Option Addr}{d e:Nat}(h:Fj w0 w1 r z kk i j D E d e)(hb:Below w1.heap.size w1 w2):Fj w0 w2 r z kk i j D E d e :=
 ⟨h.p1.over hb,h.p2.over hb,iF.lift h.i1 hb,iF.lift h.i2 hb,h.iN.trans (hb.mono h.iN.size)⟩
theorem R5{w:World}{lo n d:Nat}{D:Option Addr}{xs:List Int}(h:Own (aI .i64) 3 w lo (.slice D n d) xs)(_:xs.length=n):IR w w.heap.size D n d xs:=h.se
theorem HV {w:World}{lo b g:Nat}{v u:Value}{xs:List Int}{k:Int}(h:Own (aI .i64) 3 w lo v xs)(hp:bP 30 w b u k)(e:v.ownBlock=some g):g≠b:=by
 intro q;subst q;obtain⟨_,cur,h3⟩:=h.lies e;unfold bP at hp;rw[hp]at h3;injection h3 with h3;injection h3 with _ h3 _;exact absurd h3 (by decide)
theorem Qx (W:World)(r z:Nat)(a b c d:Value)(g:Nat)(h1:g≠r)(h2:g≠z):((((W.setCell ⟨r,0,none⟩ a).setCell ⟨r,1,none⟩ b).setCell ⟨z,0,none⟩ c).setCell ⟨z,1,none⟩ d).heap[g]? = W.heap[g]? := by
 rw[fw _ _ _ _ (by exact h2),fw _ _ _ _ (by exact h2),fw _ _ _ _ (by exact h1),fw _ _ _ _ (by exact h1)]
theorem NF (w:World)(hx:rV w)(p:ByteArray)(ms:List Nd)(hp:jc p (.ok ms))(wM:strOfNums (cz ms)=p)(hs:(iq++p).size≤300)(x:bK)(hO:qR x.s)(B:Option Addr)(hS:o6 w w.heap.size (.slice B 1 1) [x]) :
 Calls Tryz.prog 12 #[.string (iq++p),.string ⟨#[65]⟩,.slice B 1 1] w fun e w'=>e = .returned (.string (uD ⟨#[65]⟩ [x.s] ms))∧Below w.heap.size w w':=by
 have hz:(iq++p).size=1+p.size:=by rw[ByteArray.size_append];rfl
 exact TB w (iq++p) p ⟨#[65]⟩ [x] B 1 1 hx hS (by omega) (fun y hy=>by rw[fA.1 hy];exact hO) (by decide) hs (by omega) (ab2 p) (Tz iq p _ rfl rfl) ms hp wM
theorem ady (w:World)(A:Option Addr)(n cap:Nat)(a b p:Nat)(ha:a≤255)(hb:b≤255)(hp:p≤255)(hmd:Calls Tryz.prog 7 #[.slice A n cap] w (FP w))(hx:rV w) :
 Calls Tryz.prog 4 #[.slice A n cap,.int .u8 (a:Int),.int .u8 (b:Int),.int .u8 (p:Int)] w fun e w'=>e = .returned (.bool true)∧Below w.heap.size w w':=by
 by_cases hno:30<n
 · exact adx w A n cap a b p hno hx
 have h1:¬ (30:Int)<(n:Int):=by omega
 obtain⟨kk,hkk⟩:∃kk:Nat,3+(a:Int) % 40=(kk:Int):=⟨3+a % 40,by omega⟩;have hk0:3≤kk∧kk≤42:=by omega
 obtain⟨i,hi⟩:∃i,b % kk=i:=⟨_,rfl⟩;obtain⟨j,hj⟩:∃j,p % (kk+1)=j:=⟨_,rfl⟩;have hik:i<kk:=by rw[← hi];exact Nat.mod_lt _ (by omega)
 have hjk:j<kk+1:=by rw[← hj];exact Nat.mod_lt _ (by omega)
 have D9:(b:Int) % (kk:Int)=(i:Int):=by rw[← hi];simp
 have Ea:(p:Int) % ((kk:Int)+1)=(j:Int):=by rw[← hj];simp
 have Gl:(b:Int).tmod (kk:Int)=(i:Int):=by rw[rT (by omega)];exact D9
 have fj2:(p:Int).tmod ((kk:Int)+1)=(j:Int):=by rw[rT (by omega)];exact Ea
 have HK:=ae hk0;have Ow:=ae hik;have Oy:=ae hjk;have WN:=ae (⟨D9,Ea,Gl,fj2⟩:(b:Int) % (kk:Int)=(i:Int)∧(p:Int) % ((kk:Int)+1)=(j:Int)∧(b:Int).tmod (kk:Int)=(i:Int)∧(p:Int).tmod ((kk:Int)+1)=(j:Int));have HKK:=ae hkk;have JD:=ae hmd;have HX:=ae hx;have Jd:=ae (fun (wq:World)(hq:Below w.heap.size w wq)=>Px wq (hx.below hq));have xn:=ae adh;clear hmd hx hno hi hj hik hjk D9 Ea Gl fj2 hk0;go_enter Tryz.func4,Tryz.ntmps4
 go_upto_region 5 with (first
  | (go_at_call 7;((with_reducible refine JD.o.mono ?_);rintro e w1 h;obtain⟨hb,A1,c1,l,rfl,hsn,hN⟩:=h.made;have wJ:=adg hN;have HB1:=ae hb;have gy:=ae hsn;have HN:=ae hN;clear hb hsn hN h))
  | (go_at_call 6;((with_reducible refine(xn.o _ _ l gy.o HN.o).mono ?_);rintro e w2 ⟨rfl,hq⟩;have H2:=ae (HB1.o.trans (hq.mono HB1.o.size));clear hq)))
 obtain⟨ns,hns⟩:∃ns,l.map (·.1)=ns:=⟨_,rfl⟩;rw[hns]at HN ⊢;obtain⟨mb,hmb,hmc⟩:=afZ ns HN.o;obtain⟨t,ht⟩:∃t,(⟨#[61]⟩:ByteArray)++strOfNums (cz ns)=t:=⟨_,rfl⟩;have JC:=ae (show ∀w:World,Calls Tryz.prog 8 #[.string t] w fun e w'=>e = .returned (.bool mb)∧Below w.heap.size w w' from by rw[← ht];exact hmc);have Xc:=ae hmb;have xA:=ae ht;rw[ht];clear hmb hmc ht wJ hns gy HB1 JD xn
 have HI1:=ae (fun (wq:World)(hq:Below w2.heap.size w2 wq)=>(show Calls Tryz.prog 11 #[.int .i64 (kk:Int),.int .i64 (i:Int)] wq fun e w'=>∃D d,e = .returned (.agg #[.slice D kk d,.int .i64 ((kk:Int)+1)])∧Own (aI .i64) 3 w' w2.heap.size (.slice D kk d) (eX kk i)∧Below wq.heap.size wq w' from by
  have h:=HK.o;have h2:=Ow.o;have e1:=R4 kk i (by omega) (by omega);refine(M7 wq (kk:Int) (i:Int)).mono fun e w1 h => ?_
  rw[e1]at h;obtain⟨v,he,h1,h2⟩:=h;obtain⟨D,d,hv⟩:=zx h1;rw[mf]at hv;subst hv;exact⟨D,d,he,h1.mono hq.size,h2⟩))
 have HI2:=ae (fun (wq:World)(hq:Below w2.heap.size w2 wq)=>(show Calls Tryz.prog 11 #[.int .i64 ((kk:Int)+1),.int .i64 (j:Int)] wq fun e w'=>∃D d,e = .returned (.agg #[.slice D (kk+1) d,.int .i64 ((kk:Int)+2)])∧Own (aI .i64) 3 w' w2.heap.size (.slice D (kk+1) d) (eX (kk+1) j)∧Below wq.heap.size wq w' from by
  have h:=HK.o;have h2:=Oy.o;have e1:=R4 (kk+1) j (by omega) (by omega);refine(M7 wq ((kk+1:Nat):Int) (j:Int)).mono fun e w1 h => ?_
  rw[e1,show((kk+1:Nat):Int)+1=(kk:Int)+2 by omega]at h;obtain⟨v,he,h1,h2⟩:=h;obtain⟨D,d,hv⟩:=zx h1;rw[mf]at hv;subst hv;exact⟨D,d,he,h1.mono hq.size,h2⟩))
 obtain⟨D9,Ea,Gl,fj2⟩:=WN.o;have hk1:=HK.o.1;have hk2:=HK.o.2;have hnz:¬ (kk:Int)=0:=by omega
 have hkn:¬ kk=0:=by omega
 have abj:¬ (kk:Int)+1=0:=by omega
 have wb:IntKind.i64.wrap (b:Int)=(b:Int):=by rw[fU];omega
 have wp:IntKind.i64.wrap (p:Int)=(p:Int):=by rw[fU];omega
 have wk:IntKind.i64.wrap (kk:Int)=(kk:Int):=by rw[fU];omega
 have wk1:IntKind.i64.wrap ((kk:Int)+1)=(kk:Int)+1:=by rw[fU];omega
 have wi:IntKind.i64.wrap (i:Int)=(i:Int):=by have:=Ow.o;rw[fU];omega
 have wj:IntKind.i64.wrap (j:Int)=(j:Int):=by have:=Oy.o;rw[fU];omega
 go_cut [11,12] (fun Uc Ud wx=>∃(dX:World)(r z:Nat)(D E:Option Addr)(d e:Nat),dX=wx∧Uc = .pointer (some ⟨r,0,none⟩)∧Ud = .pointer (some ⟨z,0,none⟩)∧Hid (Fj w2 dX r z kk i j D E d e))
 case first =>
  refine aiX (fun j=>decide (j<16)) [14,15] (fun u v=>Below u.heap.size u v) (tH kk i j b p w2) _ _ [some 29,some 30,some 31,some 32,some 33,some 34,some 35,some 36,some 37,some 38,some 39,some 40,some 41,some 42,some 11,some 12,none,none] 5 rfl (by kernel_rfl) rfl (by rfl) (by decide +kernel) (fun _ _ _ h g=>h.trans (g.mono h.size)) (fun u=>ak _ _) (tH.stable kk i j b p w2) (tH.fresh kk i j b p w2) ?step ?fin
  case step =>
   intro i' oi hi hm x W hR hd;have hc:i'<16:=of_decide_eq_true hm;have nE:Below w2.heap.size w2 W:=(Below.drew (ak _ _)).trans hR;have h12:i'=0∨i'=1∨i'=2∨i'=3∨i'=4∨i'=5∨i'=6∨i'=7∨i'=8∨i'=9∨i'=10∨i'=11∨i'=12∨i'=13∨i'=14∨i'=15:=by omega
   clear hm hc;rcases h12 with rfl|rfl|rfl|rfl|rfl|rfl|rfl|rfl|rfl|rfl|rfl|rfl|rfl|rfl|rfl|rfl
   · simp only[List.getElem?_toArray,List.getElem?_cons_zero,bf]at hi
     subst hi;rw[ah (show Region.wanted _ _=true from rfl)];intro K hK;simp only[kT,Act.put,List.setIfInBounds_toArray,List.set_cons_zero,List.set_cons_succ,Nat.reduceAdd,Nat.zero_add]at hK ⊢;go_simp;exact hK.o _ _ (fun h=>by cases h) (ak _ _) rfl (fun h=>absurd h (by decide))
   · simp only[List.getElem?_toArray,List.getElem?_cons_zero,List.getElem?_cons_succ,bf]at hi
     subst hi;rw[ah (show Region.wanted _ _=true from rfl)];intro K hK;simp only[kT,Act.put,List.setIfInBounds_toArray,List.set_cons_zero,List.set_cons_succ,Nat.reduceAdd,Nat.zero_add]at hK ⊢;go_simp;exact hK.o _ _ (fun h=>by cases h) (ak _ _) rfl (fun h=>absurd h (by decide))
   · simp only[List.getElem?_toArray,List.getElem?_cons_zero,List.getElem?_cons_succ,bf]at hi
     subst hi;rw[ah (show Region.wanted _ _=true from rfl)];intro K hK;have t1:x 1 = .int .u8 (b:Int):=hd 1 (by decide +kernel) (by decide);simp only[kT,Act.put,List.setIfInBounds_toArray,List.set_cons_zero,List.set_cons_succ,Nat.reduceAdd,Nat.zero_add,t1]at hK ⊢;go_simp;exact hK.o _ _ (fun h=>by cases h) (ak _ _) rfl (fun h=>absurd h (by decide))
   · simp only[List.getElem?_toArray,List.getElem?_cons_zero,List.getElem?_cons_succ,bf]at hi
     subst hi;rw[ah (show Region.wanted _ _=true from rfl)];intro K hK;simp only[kT,Act.put,List.setIfInBounds_toArray,List.set_cons_zero,List.set_cons_succ,Nat.reduceAdd,Nat.zero_add]at hK ⊢;go_simp;exact hK.o _ _ (fun h=>by cases h) (ak _ _) rfl (fun h=>absurd h (by decide))
   · simp only[List.getElem?_toArray,List.getElem?_cons_zero,List.getElem?_cons_succ,bf]at hi
     subst hi;rw[ah (show Region.wanted _ _=true from rfl)];intro K hK;have t2:x 2 = .int .i64 (b:Int):=hd 2 (by decide +kernel) (by decide);have t3:x 3 = .int .i64 (kk:Int):=hd 3 (by decide +kernel) (by decide);simp only[kT,Act.put,List.setIfInBounds_toArray,List.set_cons_zero,List.set_cons_succ,Nat.reduceAdd,Nat.zero_add,t2,t3]at hK ⊢;go_simp;exact hK.o _ _ (fun h=>by cases h) (ak _ _) rfl (fun h=>absurd h (by decide))
   · simp only[List.getElem?_toArray,List.getElem?_cons_zero,List.getElem?_cons_succ,bf]at hi
     subst hi;rw[ah (show Region.wanted _ _=true from rfl)];intro K hK;have t0:x 0 = .int .i64 (kk:Int):=hd 0 (by decide +kernel) (by decide);have t4:x 4 = .int .i64 (i:Int):=hd 4 (by decide +kernel) (by decide);simp only[kT,Act.put,List.setIfInBounds_toArray,List.set_cons_zero,List.set_cons_succ,Nat.reduceAdd,Nat.zero_add,t0,t4]at hK ⊢;go_simp;go_at_call 11;refine(HI1.o _ nE).mono ?_;rintro e wa ⟨D,d,rfl,hr,hb⟩;exact hK.o _ _ (fun h=>by cases h) hb ⟨D,d,rfl,hr⟩ (fun h=>absurd h (by decide))
   · simp only[List.getElem?_toArray,List.getElem?_cons_zero,List.getElem?_cons_succ,bf]at hi
     subst hi;rw[ah (show Region.wanted _ _=true from rfl)];intro K hK;simp only[kT,Act.put,List.setIfInBounds_toArray,List.set_cons_zero,List.set_cons_succ,Nat.reduceAdd,Nat.zero_add]at hK ⊢;go_simp;exact hK.o _ _ (fun h=>by cases h) (ak _ _) rfl (fun h=>absurd h (by decide))
   · simp only[List.getElem?_toArray,List.getElem?_cons_zero,List.getElem?_cons_succ,bf]at hi
     subst hi;rw[ah (show Region.wanted _ _=true from rfl)];intro K hK;have t6:x 6 = .int .i64 (kk:Int):=hd 6 (by decide +kernel) (by decide);simp only[kT,Act.put,List.setIfInBounds_toArray,List.set_cons_zero,List.set_cons_succ,Nat.reduceAdd,Nat.zero_add,t6]at hK ⊢;go_simp;exact hK.o _ _ (fun h=>by cases h) (ak _ _) rfl (fun h=>absurd h (by decide))
   · simp only[List.getElem?_toArray,List.getElem?_cons_zero,List.getElem?_cons_succ,bf]at hi
     subst hi;rw[ah (show Region.wanted _ _=true from rfl)];intro K hK;simp only[kT,Act.put,List.setIfInBounds_toArray,List.set_cons_zero,List.set_cons_succ,Nat.reduceAdd,Nat.zero_add]at hK ⊢;go_simp;exact hK.o _ _ (fun h=>by cases h) (ak _ _) rfl (fun h=>absurd h (by decide))
   · simp only[List.getElem?_toArray,List.getElem?_cons_zero,List.getElem?_cons_succ,bf]at hi
     subst hi;rw[ah (show Region.wanted _ _=true from rfl)];intro K hK;have t8:x 8 = .int .u8 (p:Int):=hd 8 (by decide +kernel) (by decide);simp only[kT,Act.put,List.setIfInBounds_toArray,List.set_cons_zero,List.set_cons_succ,Nat.reduceAdd,Nat.zero_add,t8]at hK ⊢;go_simp;exact hK.o _ _ (fun h=>by cases h) (ak _ _) rfl (fun h=>absurd h (by decide))
   · simp only[List.getElem?_toArray,List.getElem?_cons_zero,List.getElem?_cons_succ,bf]at hi
     subst hi;rw[ah (show Region.wanted _ _=true from rfl)];intro K hK;simp only[kT,Act.put,List.setIfInBounds_toArray,List.set_cons_zero,List.set_cons_succ,Nat.reduceAdd,Nat.zero_add]at hK ⊢;go_simp;exact hK.o _ _ (fun h=>by cases h) (ak _ _) rfl (fun h=>absurd h (by decide))
   · simp only[List.getElem?_toArray,List.getElem?_cons_zero,List.getElem?_cons_succ,bf]at hi
     subst hi;rw[ah (show Region.wanted _ _=true from rfl)];intro K hK;have t10:x 10 = .int .i64 (kk:Int):=hd 10 (by decide +kernel) (by decide);simp only[kT,Act.put,List.setIfInBounds_toArray,List.set_cons_zero,List.set_cons_succ,Nat.reduceAdd,Nat.zero_add,t10]at hK ⊢;go_simp;exact hK.o _ _ (fun h=>by cases h) (ak _ _) rfl (fun h=>absurd h (by decide))
   · simp only[List.getElem?_toArray,List.getElem?_cons_zero,List.getElem?_cons_succ,bf]at hi
     subst hi;rw[ah (show Region.wanted _ _=true from rfl)];intro K hK;have t9:x 9 = .int .i64 (p:Int):=hd 9 (by decide +kernel) (by decide);have t11:x 11 = .int .i64 ((kk:Int)+1):=hd 11 (by decide +kernel) (by decide);simp only[kT,Act.put,List.setIfInBounds_toArray,List.set_cons_zero,List.set_cons_succ,Nat.reduceAdd,Nat.zero_add,t9,t11]at hK ⊢;go_simp;exact hK.o _ _ (fun h=>by cases h) (ak _ _) rfl (fun h=>absurd h (by decide))
   · simp only[List.getElem?_toArray,List.getElem?_cons_zero,List.getElem?_cons_succ,bf]at hi
     subst hi;rw[ah (show Region.wanted _ _=true from rfl)];intro K hK;have t7:x 7 = .int .i64 ((kk:Int)+1):=hd 7 (by decide +kernel) (by decide);have t12:x 12 = .int .i64 (j:Int):=hd 12 (by decide +kernel) (by decide);simp only[kT,Act.put,List.setIfInBounds_toArray,List.set_cons_zero,List.set_cons_succ,Nat.reduceAdd,Nat.zero_add,t7,t12]at hK ⊢;go_simp;go_at_call 11;refine(HI2.o _ nE).mono ?_;rintro e wa ⟨D,d,rfl,hr,hb⟩;exact hK.o _ _ (fun h=>by cases h) hb ⟨D,d,rfl,hr⟩ (fun h=>absurd h (by decide))
   · simp only[List.getElem?_toArray,List.getElem?_cons_zero,List.getElem?_cons_succ,bf]at hi
     subst hi;rw[ah (show Region.wanted _ _=true from rfl)];intro K hK;simp only[kT,Act.put,List.setIfInBounds_toArray,List.set_cons_zero,List.set_cons_succ,Nat.reduceAdd,Nat.zero_add]at hK ⊢;go_simp;exact hK.o _ _ (fun h=>by cases h) (Below.alloc (ak _ _) (aj _) _) ⟨_,rfl,bP.new _ W _ _,nE.size⟩ (fun _=>⟨_,rfl,aj _⟩)
   · simp only[List.getElem?_toArray,List.getElem?_cons_zero,List.getElem?_cons_succ,bf]at hi
     subst hi;rw[ah (show Region.wanted _ _=true from rfl)];intro K hK;simp only[kT,Act.put,List.setIfInBounds_toArray,List.set_cons_zero,List.set_cons_succ,Nat.reduceAdd,Nat.zero_add]at hK ⊢;go_simp;exact hK.o _ _ (fun h=>by cases h) (Below.alloc (ak _ _) (aj _) _) ⟨_,rfl,bP.new _ W _ _,nE.size⟩ (fun _=>⟨_,rfl,aj _⟩)
  case fin =>
   intro x W hR hd hne;have nE:Below w2.heap.size w2 W:=(Below.drew (ak _ _)).trans hR;obtain⟨D,d,t5,g1⟩:=(hd 5 (by decide) rfl:tH kk i j b p w2 5 (x 5) W);obtain⟨E,e,t13,g2⟩:=(hd 13 (by decide) rfl:tH kk i j b p w2 13 (x 13) W);obtain⟨r,tr,h1,h2⟩:=(hd 14 (by decide) rfl:tH kk i j b p w2 14 (x 14) W);obtain⟨z,tz,h3,h4⟩:=(hd 15 (by decide) rfl:tH kk i j b p w2 15 (x 15) W);have hrz:r≠z:=fun e=>hne 14 (by decide) 15 (by decide) (by decide) rfl rfl (by decide) (by decide) (by rw[tr,tz,e])
   have RY:=hrz.symm;obtain⟨c0,c1⟩:=h1.cells;obtain⟨m0,m1⟩:=h1.bS;obtain⟨d0,d1⟩:=h3.cells;obtain⟨p0,p1⟩:=h3.bS;have l5:=ae g1;have HG2:=ae g2;have bG:=ae h1;have aY:=ae h3;have HR3:=ae nE;have HR2:=ae h2;have HR4:=ae h4;clear hd hne hR g1 g2 h1 h3 nE h2 h4;show wpAny _ _ _ _ 2 #[true,true,true,true,true,true,true,true,true,true,true,true,true,true,true,true,false,false] _ _;refine wpAny_of_held (S:=fun _=>True) 2 _ _ _ ?_;simp only[kT,Act.put,List.setIfInBounds_toArray,List.set_cons_zero,List.set_cons_succ,Nat.reduceAdd,Nat.zero_add,t5,t13,tr,tz];refine hO 16 (fun K hK => ?_);go_simp;refine hK.o undef _ trivial ?_;clear hK K;simp only[Act.put];refine hO 17 (fun K hK => ?_);go_simp;refine hK.o undef _ trivial ?_;clear hK K;simp only[Act.put];refine wpAnyH_done (by kernel_rfl) ?_ _;go_wp2_with fail
   go_meet;refine⟨_,_,_,D,E,d,e,rfl,rfl,rfl,ae ?_⟩;have k1:=l5.o.keep (w':=(((W.setCell ⟨r,0,none⟩ (.slice D kk d)).setCell ⟨r,1,none⟩ (.int .i64 ((kk:Int)+1))).setCell ⟨z,0,none⟩ (.slice E (kk+1) e)).setCell ⟨z,1,none⟩ (.int .i64 ((kk:Int)+2))) fun g _ _ q=>Qx W r z _ _ _ _ g (HV l5.o bG.o q) (HV l5.o aY.o q)
   have k2:=HG2.o.keep (w':=(((W.setCell ⟨r,0,none⟩ (.slice D kk d)).setCell ⟨r,1,none⟩ (.int .i64 ((kk:Int)+1))).setCell ⟨z,0,none⟩ (.slice E (kk+1) e)).setCell ⟨z,1,none⟩ (.int .i64 ((kk:Int)+2))) fun g _ _ q=>Qx W r z _ _ _ _ g (HV HG2.o bG.o q) (HV HG2.o aY.o q)
   exact⟨((bG.o.oN _ _).other ⟨z,0,none⟩ _ hrz).other ⟨z,1,none⟩ _ hrz,((aY.o.other ⟨r,0,none⟩ _ RY).other ⟨r,1,none⟩ _ RY).oN _ _,R5 k1 (mf kk i),R5 k2 (mf (kk+1) j),(((HR3.o.setCell (p:=⟨r,0,none⟩) HR2.o _).setCell (p:=⟨r,1,none⟩) HR2.o _).setCell (p:=⟨z,0,none⟩) HR4.o _).setCell (p:=⟨z,1,none⟩) HR4.o _⟩
 case rest =>
 obtain⟨w3,r,z,D,E,d,e,rfl,rfl,rfl,Jh⟩:=hcut;clear HI1 HI2 D9 Ea Gl fj2 wb wp wk wk1 wi wj hnz hkn abj hk1 hk2;have H3:=ae (H2.o.trans (Jh.o.iN.mono H2.o.size))
 have O0:=ae (fun (wq:World)=>(show Calls Tryz.prog 9 #[.int .i64 5] wq fun e w'=>∃S s,e = .returned (.agg #[.slice S 5 s,.int .i64 5])∧IR w' w'.heap.size S 5 s (gu 5)∧Below wq.heap.size wq w' from(Na wq 5).mono fun e w1 h=>by
  rw[show jg 5=5 from by decide]at h;exact Ig (n:=5) h rfl))
 go_upto_region 7 with (go_at_call 9;((with_reducible refine(O0.o _).mono ?_);rintro e w4 ⟨S5,s5,rfl,hr,hq⟩;have Oi:=ae (Jh.o.next hq);have HR4:=ae hr;have H4:=ae (H3.o.trans (hq.mono H3.o.size));clear hr hq))
 have eD:=ae (Below.alloc (ak w4.heap.size w4) (aj _) (.cells #[.slice S5 5 s5,.int .i64 5] 30));have aU:=ae (bP.new 30 w4 (.slice S5 5 s5) 5);obtain⟨q,hq⟩:∃q,w4.heap.size=q:=⟨_,rfl⟩;obtain⟨w5,zg⟩:∃w5,w4.alloc (.cells #[.slice S5 5 s5,.int .i64 5] 30)=w5:=⟨_,rfl⟩;rw[zg]at eD aU ⊢;rw[hq]at aU ⊢;clear zg hq;have Fv:=ae (Oi.o.next eD.o);have uK:=ae (iF.lift HR4.o eD.o);have dZ:=ae (H4.o.trans (eD.o.mono H4.o.size));obtain⟨a0,a1⟩:=Fv.o.p1.cells;obtain⟨c0,c1⟩:=aU.o.cells;go_upto_region 8 with fail
 obtain⟨w6,nH,hb6,hz6,x1,hx1,hS1⟩:=Mw w5 D S5 d s5 (eX kk i) (gu 5) ((kk:Int)+1) 5 (mf kk i) (show(gu 5).length=5 from rfl) Fv.o.i1 uK.o;rw[nH];obtain⟨g1,hg1⟩:∃g1,w5.heap.size=g1:=⟨_,rfl⟩;rw[hg1]at hS1 ⊢;have Fw:=ae (Fv.o.next hb6);have BP:=ae (iF.lift uK.o hb6);have kJ:=ae (dZ.o.trans (hb6.mono dZ.o.size));have dJ:=ae (aU.o.over hb6);have gy:=ae hS1;have wy:=ae hx1;clear nH hb6 hz6 hg1 hS1 hx1 a0 a1 c0 c1;obtain⟨b0,b1⟩:=Fw.o.p2.cells;obtain⟨c0,c1⟩:=dJ.o.cells;go_upto_region 9 with fail
 obtain⟨w7,hw7,Cj,hz7,x2,hx2,hS2⟩:=Mw w6 E S5 e s5 (eX (kk+1) j) (gu 5) ((kk:Int)+2) 5 (mf (kk+1) j) (show(gu 5).length=5 from rfl) Fw.o.i2 BP.o;rw[hw7];obtain⟨g2,hg2⟩:∃g2,w6.heap.size=g2:=⟨_,rfl⟩;rw[hg2]at hS2 ⊢;have zV:=ae (Fw.o.next Cj);have OV:=ae (iF.lift BP.o Cj);have rW:=ae (kJ.o.trans (Cj.mono kJ.o.size));have bC:=ae (dJ.o.over Cj);have OX:=ae (gy.o.lift Cj);have HS2:=ae hS2;have bZ:=ae hx2;clear hw7 Cj hz7 hg2 hS2 hx2 b0 b1 c0 c1 gy
 have xh:=ae (fun (wq:World)(hq:Below w7.heap.size w7 wq)=>(show wq.cell? ⟨r,0,none⟩=some (.slice D kk d)∧wq.cell? ⟨r,1,none⟩=some (.int .i64 ((kk:Int)+1))∧wq.cell? ⟨z,0,none⟩=some (.slice E (kk+1) e)∧wq.cell? ⟨z,1,none⟩=some (.int .i64 ((kk:Int)+2))∧wq.cell? ⟨q,0,none⟩=some (.slice S5 5 s5)∧wq.cell? ⟨q,1,none⟩=some (.int .i64 5)from
  ⟨(zV.o.p1.over hq).cells.1,(zV.o.p1.over hq).cells.2,(zV.o.p2.over hq).cells.1,(zV.o.p2.over hq).cells.2,(bC.o.over hq).cells.1,(bC.o.over hq).cells.2⟩))
 have FK:=ae (fun (wq:World)(hq:Below w7.heap.size w7 wq)=>(show Calls Tryz.prog 13 #[.agg #[.slice D kk d,.int .i64 ((kk:Int)+1)],.agg #[.slice E (kk+1) e,.int .i64 ((kk:Int)+2)]] wq fun e w'=>∃F f,e = .returned (.agg #[.slice F kk f,.int .i64 ((kk:Int)+2)])∧IR w' w'.heap.size F kk f (kr (eX kk i) (eX (kk+1) j) ((kk:Int)+2))∧Below wq.heap.size wq w' from by
  have h:=HK.o;exact(aga wq D kk d (eX kk i) ((kk:Int)+1) E (kk+1) e (eX (kk+1) j) ((kk:Int)+2) (iF.lift zV.o.i1 hq) (iF.lift zV.o.i2 hq) (by omega) (by omega) (by omega) (by omega) (fun i' hi'=>by rw[Cr kk i' _ hi'];split <;> omega)).mono fun e w' h=>Ig (n:=kk) h (by rw[vG,mf])))
 have Dj:=ae (Below.drew (ak w7.heap.size w7));obtain⟨a0,a1,b0,b1,c0,c1⟩:=xh.o _ Dj.o
 go_region_held3 (fun wq=>wq.cell? ⟨r,0,none⟩=some (.slice D kk d)∧wq.cell? ⟨r,1,none⟩=some (.int .i64 ((kk:Int)+1))∧wq.cell? ⟨z,0,none⟩=some (.slice E (kk+1) e)∧wq.cell? ⟨z,1,none⟩=some (.int .i64 ((kk:Int)+2))∧wq.cell? ⟨q,0,none⟩=some (.slice S5 5 s5)∧wq.cell? ⟨q,1,none⟩=some (.int .i64 5)) (first|exact⟨a0,a1,b0,b1,c0,c1⟩|exact xh.o _ zU.o|exact xh.o _ (Below.alloc zU.o zU.o.size _)) (first
  | (go_at_call 13;((with_reducible refine(FK.o _ Dj.o).mono ?_);rintro e w8 ⟨F,f,rfl,hr,hq⟩;have zU:=ae (Dj.o.trans (hq.mono Dj.o.size));have qO:=ae hr;clear hr hq)))
 clear a0 a1 b0 b1 c0 c1;obtain⟨gW,RQ,QW,Lx,x3,hx3,KT⟩:=Mw w8 F S5 f s5 (kr (eX kk i) (eX (kk+1) j) ((kk:Int)+2)) (gu 5) ((kk:Int)+2) 5 (by rw[vG,mf]) (show(gu 5).length=5 from rfl) qO.o (iF.lift OV.o zU.o);rw[RQ];obtain⟨g3,hg3⟩:∃g3,w8.heap.size=g3:=⟨_,rfl⟩;rw[hg3]at KT ⊢;have Gr:=zU.o.trans (QW.mono zU.o.size);have rX:=ae (rW.o.trans (Gr.mono rW.o.size));have HT1:=ae (OX.o.lift Gr);have HT2:=ae (HS2.o.lift Gr);have HT3:=ae KT;have eF:=ae hx3;clear RQ QW Lx hg3 KT hx3 Gr xh FK zV Fw Fv Oi Jh bC dJ aU qO OV BP uK HR4 OX HS2 O0 Dj zU eD;cases mb
 · go_wp2_with (first
    | (go_at_call 8;((with_reducible refine(JC.o _).mono ?_);rintro e Wh ⟨rfl,hq⟩;have uH:=ae (rX.o.trans (hq.mono rX.o.size));clear hq))
    | (go_at_call 5;((with_reducible refine(Jd.o _ uH.o).mono ?_);rintro e Wi ⟨rfl,hq⟩;have zT:=ae (uH.o.trans (hq.mono uH.o.size));clear hq)))
   go_ret;exact⟨rfl,zT.o⟩
 · by_cases hsz:150<t.size
   · have hs1:(150:Int)<(t.size:Int):=by omega
     clear hsz
     go_wp2_with (first
      | (go_at_call 8;((with_reducible refine(JC.o _).mono ?_);rintro e Wh ⟨rfl,hq⟩;have uH:=ae (rX.o.trans (hq.mono rX.o.size));clear hq))
      | (go_at_call 5;((with_reducible refine(Jd.o _ uH.o).mono ?_);rintro e Wi ⟨rfl,hq⟩;have zT:=ae (uH.o.trans (hq.mono uH.o.size));clear hq)))
     go_ret;exact⟨rfl,zT.o⟩
   · have hs1:¬ (150:Int)<(t.size:Int):=by omega
     obtain⟨hm1,hm2⟩:=Xc.o rfl;obtain⟨u,hu1,hu2,ms,hu3,RL,j6⟩:=ain HN.o hm2 (by rw[show iq++strOfNums (cz ns)=t from xA.o];omega) kk i j (by have:=HK.o;omega);obtain⟨v,hv⟩:∃v,uD ⟨#[65]⟩ [kH (kr (eX kk i) (eX (kk+1) j) ((kk:Int)+2)) ((kk:Int)+2) (gu 5) 5] ns=v:=⟨_,rfl⟩;rw[hv]at j6;have Rn:qR x1.s:=by rw[wy.o];have:=HK.o;exact⟨Md kk i (by omega),He 5⟩
     have Ro:qR x2.s:=by
      rw[bZ.o];have h:=HK.o;have h1:=Md (kk+1) j (by omega);rw[show((kk+1:Nat):Int)+1=(kk:Int)+2 by omega]at h1;exact⟨h1,He 5⟩
     have Eu:qR x3.s:=by rw[eF.o];have:=HK.o;exact⟨adD kk i j (by omega),He 5⟩
     obtain⟨s1,Lj⟩:∃s1,iq++u=s1:=⟨_,rfl⟩
     have BJ:=ae (fun (wq:World)(hq:Below gW.heap.size gW wq)=>(show Calls Tryz.prog 12 #[.string t,.string ⟨#[65]⟩,.slice (some ⟨g1,0,none⟩) 1 1] wq fun e w'=>e = .returned (.string s1)∧Below wq.heap.size wq w' from by
      have h:=NF wq ((HX.o.below rX.o).below hq) _ ns hm2 rfl hm1 x1 Rn (some ⟨g1,0,none⟩) (HT1.o.lift hq);rw[wy.o,hu1,Lj,show iq++strOfNums (cz ns)=t from xA.o]at h;exact h))
     have Dm:=ae (fun (wq:World)(hq:Below gW.heap.size gW wq)=>(show Calls Tryz.prog 12 #[.string s1,.string ⟨#[65]⟩,.slice (some ⟨g2,0,none⟩) 1 1] wq fun e w'=>e = .returned (.string v)∧Below wq.heap.size wq w' from by
      have h:=NF wq ((HX.o.below rX.o).below hq) u ms hu3 RL hu2 x2 Ro (some ⟨g2,0,none⟩) (HT2.o.lift hq);rw[bZ.o,j6,Lj]at h;exact h))
     have rY:=ae (fun (wq:World)(hq:Below gW.heap.size gW wq)=>(show Calls Tryz.prog 12 #[.string t,.string ⟨#[65]⟩,.slice (some ⟨g3,0,none⟩) 1 1] wq fun e w'=>e = .returned (.string v)∧Below wq.heap.size wq w' from by
      have h:=NF wq ((HX.o.below rX.o).below hq) _ ns hm2 rfl hm1 x3 Eu (some ⟨g3,0,none⟩) (HT3.o.lift hq);rw[eF.o,hv,show iq++strOfNums (cz ns)=t from xA.o]at h;exact h))
     clear hsz hm1 hm2 hu1 hu2 hu3 RL j6 hv Rn Ro Eu Lj
     go_wp2_with (first
      | (go_at_call 8;((with_reducible refine(JC.o _).mono ?_);rintro e Wh ⟨rfl,hq⟩;have uH:=ae hq;clear hq))
      | (go_at_call 12;((with_reducible refine(rY.o _ Jb.o).mono ?_);rintro e w13 ⟨rfl,hq⟩;have Jc:=ae (Jb.o.trans (hq.mono Jb.o.size));clear hq))
      | (go_at_call 12;((with_reducible refine(Dm.o _ zT.o).mono ?_);rintro e w12 ⟨rfl,hq⟩;have Jb:=ae (zT.o.trans (hq.mono zT.o.size));clear hq))
      | (go_at_call 12;((with_reducible refine(BJ.o _ uH.o).mono ?_);rintro e Wi ⟨rfl,hq⟩;have zT:=ae (uH.o.trans (hq.mono uH.o.size));clear hq))
      | (go_at_call 5;((with_reducible refine(Jd.o _ (rX.o.trans (Jc.o.mono rX.o.size))).mono ?_);rintro e w14 ⟨rfl,hq⟩;have WA:=ae ((rX.o.trans (Jc.o.mono rX.o.size)).trans (hq.mono (rX.o.trans (Jc.o.mono rX.o.size)).size));clear hq)))
     go_ret;exact⟨rfl,WA.o⟩
theorem adw (w:World)(A:Option Addr)(n cap:Nat)(xs:List Int)(a b p:Nat)(ha:a≤255)(hb:b≤255)(hp:p≤255)(hs:S8 w w.heap.size A n cap xs)(hx:rV w) :
 Calls Tryz.prog 4 #[.slice A n cap,.int .u8 (a:Int),.int .u8 (b:Int),.int .u8 (p:Int)] w fun e w'=>e = .returned (.bool true)∧Below w.heap.size w w':=by
 have h1:=hs.le;have h2:=hs.max;have h3:maxLen≤9223372036854775807:=by decide
 exact ady w A n cap a b p ha hb hp (adf w A n cap xs hs (by omega)) hx
end Go.Proofs.YtaobhjliflomaaaGreatDoor
