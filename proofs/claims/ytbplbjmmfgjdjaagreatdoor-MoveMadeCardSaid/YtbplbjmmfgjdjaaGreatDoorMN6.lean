import Derived.Test.YtbplbjmmfgjdjaaGreatDoorMN5
set_option maxRecDepth 100000
set_option maxHeartbeats 64000000
namespace Go.Proofs.YtbplbjmmfgjdjaaGreatDoor
open Go.RowKit
variable {b:Bool}{s:ByteArray}{i x:Int}{done:List (Nd × Value)}{ks:List Int}{l ms ns:List Nd}{vs:List aP}{r ts ts':List ah}{B T a base d d' deep n qM:Nat}{nd:Nd}{v:Value}{w w' w0:World}{t:ah}
theorem aal {A:Option Addr}{cap:Nat}{xs:List Int}(h:S8 w B A n cap xs)(k p:Nat)(hk:k≤p)(hp:p≤n) :
 ∃A',(∀wq:World,(Instr.slice 22 (.slice A n cap) (some (.int .i64 (k:Int))) (some (.int .i64 (p:Int))) none).run Tryz.prog wq = .ok (.slice A' (p - k) (cap - k)) wq)∧S8 w B A' (p - k) (cap - k) ((xs.drop k).take (p - k)):=by
 have hle:=h.le;have hmx:=h.max;have hl:=h.hlen;have e1:(p:Int)≤(cap:Int):=by omega
 have e2:(k:Int)≤(p:Int):=by omega
 have hlen:((xs.drop k).take (p - k)).length=p - k:=by rw[gW,lq];omega
 have hby:Bytes ((xs.drop k).take (p - k)):=Bytes.take (Bytes.drop h.bytes k) _;have e3:(Tryz.prog.info? 5).map (·.size)=some 1:=by kernel_rfl
 cases hq:Tryz.prog.info? 5 with
 | none=>rw[hq]at e3;cases e3
 | some i =>
   have hi:i.size=1:=by rw[hq]at e3;simpa using e3
   have hpc:p≤cap:=by omega
   by_cases h3:cap=k
   · obtain rfl:p=k:=by omega
     refine⟨A,fun wq => ?_,hlen,by omega,by omega,hby,.inl (by omega)⟩;cases A <;> simp[Instr.slice,run_underlying Tryz.underlying22,Instr.sliceBounds,Instr.sliceBound,asIntOf,sizeOf,typeInfo,hq,h3,go_sem]
   · cases A with
     | none =>
       have hn0:n=0:=by rcases h.at_ with h1|⟨_,_,h1,_⟩;exact h1;cases h1
       refine⟨none,fun wq => ?_,hlen,by omega,by omega,hby,.inl (by omega)⟩;simp[Instr.slice,run_underlying Tryz.underlying22,Instr.sliceBounds,Instr.sliceBound,asIntOf,sizeOf,typeInfo,hq,hk,hpc,go_sem]
     | some ad =>
       refine⟨some (ad.add k),fun wq => ?_,hlen,by omega,by omega,hby, ?_⟩
       · simp[Instr.slice,run_underlying Tryz.underlying22,Instr.sliceBounds,Instr.sliceBound,asIntOf,sizeOf,typeInfo,hq,hi,hk,hpc,h3,go_sem]
       · rcases h.at_ with h1|⟨pb,po,h1,h2,h4⟩
         · exact .inl (by omega)
         · injection h1 with h1
           subst h1;refine .inr ⟨pb,po+k,by rw[Addr.add_mid],h2,fun j hj => ?_⟩;rw[Nat.add_assoc,h4 (k+j) (by omega)];simp only[kg,List.getElem?_take,List.getElem?_drop,hj,if_true]
structure um (w0 w:World)(v:Value)(vs:List aP):Prop where
 own:Own Cw 40 w w0.heap.size v vs
 maps:∀x∈vs,Own (aJ .i64) 3 w w0.heap.size x.rv x.s.rx∧Own (aJ .i64) 3 w w0.heap.size x.cv x.s.cx
 ok:∀x∈vs,mV x.s
 dC:Below w0.heap.size w0 w
theorem um.start(w:World):um w w (.slice none 0 0) []:=⟨Own.nil _ _ _ _,fun x hx=>absurd hx (by simp),fun x hx=>absurd hx (by simp),ak _ _⟩
theorem um.next (h:um w0 w v vs)(hb:Below w.heap.size w w'):um w0 w' v vs :=
 ⟨h.own.below hb (aj _),fun x hx=>⟨(h.maps x hx).1.below hb (aj _),(h.maps x hx).2.below hb (aj _)⟩,h.ok,h.dC.trans (hb.mono h.dC.size)⟩
theorem um.put {v':Value}(h:um w0 w v vs)(x:aP)(hx:Own (aJ .i64) 3 w w0.heap.size x.rv x.s.rx∧Own (aJ .i64) 3 w w0.heap.size x.cv x.s.cx)(hok:mV x.s)(ho:Own Cw 40 w' w0.heap.size v' (vs++[x]))(hg:w.grownBy w' v.ownBlock):um w0 w' v' (vs++[x]):=by
 have vU:∀ {u:Value}{us:List Int},Own (aJ .i64) 3 w w0.heap.size u us→Own (aJ .i64) 3 w' w0.heap.size u us:=fun hu=>hu.keep fun g _ hl e=>hg.block g hl (hu.Cr h.own (by decide) e)
 refine⟨ho,fun u hu => ?_,fun u hu => ?_,h.dC.grown hg h.dC.size (fun g e=>(h.own.lies e).1)⟩
 · rcases dQ.1 hu with hu|hu
   · exact⟨vU (h.maps u hu).1,vU (h.maps u hu).2⟩
   · rw[gM.1 hu];exact⟨vU hx.1,vU hx.2⟩
 · rcases dQ.1 hu with hu|hu
   · exact h.ok u hu
   · rw[gM.1 hu];exact hok
theorem um.VY(h:um w0 w v vs):mW w w.heap.size v vs:=⟨h.own.se,fun x hx=>⟨(h.maps x hx).1.se,(h.maps x hx).2.se⟩⟩
theorem Elem.sf:Elem Tryz.prog 26 40 6 88:=⟨Tryz.underlying26,⟨.agg (iQ uY),by kernel_rfl,rfl⟩,by decide⟩
theorem aeP (ns:List Int)(h:ns.length≤60):xZ (ng ns).1 (ng ns).2:=by
 have k:=TN ns;have h1:=k.len;have h2:=k.high;exact⟨by omega,k.low,by omega,k.Dh⟩
theorem aeO (a:Nat)(h:a<6):xZ (mZ 4 (a:Int)).1 (mZ 4 (a:Int)).2:=by
 have e:Di (-1) (mZ 4 (a:Int)).2 (mZ 4 (a:Int)).1=true∧0≤(mZ 4 (a:Int)).2∧(mZ 4 (a:Int)).2≤5:=by
  have:∀a:Fin 6,Di (-1) (mZ 4 (a.1:Int)).2 (mZ 4 (a.1:Int)).1=true∧0≤(mZ 4 (a.1:Int)).2∧(mZ 4 (a.1:Int)).2≤5:=by decide +kernel
  exact this ⟨a,h⟩
 exact⟨by rw[adM];decide,e.2.1,by omega,Fh _ _ _ e.1⟩
def sP (nm:ByteArray)(fA r6 i:Nat)(D:Option Addr)(L d:Nat)(nw:Int)(ys:List Int)(nb:Int)(w0:World):Nat→Value→World→Prop
 | 0,v,w=>∃g,v = .slice (some ⟨g,0,none⟩) 3 3∧w.cell? ⟨g,i,none⟩=some (.string nm)∧g<w.heap.size
 | 1,v,_=>v = .int .i64 (i:Int)
 | 2,v,w=>∃g,v = .pointer (some ⟨g,i,none⟩)∧w.cell? ⟨g,i,none⟩=some (.string nm)∧g<w.heap.size
 | 3,v,_=>v = .string nm
 | 4,v,_=>v = .agg #[.slice D L d,.int .i64 nw]
 | 5,v,_=>v = .int .u8 (fA:Int)
 | 6,v,_=>v = .int .i64 (fA:Int)
 | 7,v,_=>v = .int .i64 (r6:Int)
 | 8,v,w=>∃E e,v = .agg #[.slice E ys.length e,.int .i64 nb]∧Own (aJ .i64) 3 w w0.heap.size (.slice E ys.length e) ys
 | 9,v,w=>∃E e,v = .agg #[.string nm,.slice D L d,.int .i64 nw,.slice E ys.length e,.int .i64 nb,.bool false]∧Own (aJ .i64) 3 w w0.heap.size (.slice E ys.length e) ys
 | 10,v,w=>∃r,v = .pointer (some ⟨r,0,none⟩)∧jA w r uY∧w0.heap.size≤r
 | _,_,_=>True
theorem sP.stable (nm:ByteArray)(fA r6 i:Nat)(D:Option Addr)(L d:Nat)(nw:Int)(ys:List Int)(nb:Int)(w0:World)(n:Nat)(v:Value)(w w':World)(h:sP nm fA r6 i D L d nw ys nb w0 n v w)(hr:Below w.heap.size w w'):sP nm fA r6 i D L d nw ys nb w0 n v w':=by
 match n,h with
 | 0,⟨g,e,h1,h2⟩=>exact⟨g,e,(hr.cell (p:=⟨g,i,none⟩) h2).trans h1,eB h2 hr.size⟩
 | 1,h=>exact h
 | 2,⟨g,e,h1,h2⟩=>exact⟨g,e,(hr.cell (p:=⟨g,i,none⟩) h2).trans h1,eB h2 hr.size⟩
 | 3,h=>exact h
 | 4,h=>exact h
 | 5,h=>exact h
 | 6,h=>exact h
 | 7,h=>exact h
 | 8,⟨E,e,h,h1⟩=>exact⟨E,e,h,h1.below hr (aj _)⟩
 | 9,⟨E,e,h,h1⟩=>exact⟨E,e,h,h1.below hr (aj _)⟩
 | 10,⟨r,e,h1,h2⟩=>exact⟨r,e,h1.over hr,h2⟩
 | _+11,_=>trivial
theorem sP.fresh (nm:ByteArray)(fA r6 i:Nat)(D:Option Addr)(L d:Nat)(nw:Int)(ys:List Int)(nb:Int)(w0:World):∀n∈[10],∀v w,sP nm fA r6 i D L d nw ys nb w0 n v w→∃q,v = .pointer (some ⟨q,0,none⟩)∧q<w.heap.size:=by
 intro n hn v w h;simp only[ik,List.not_mem_nil,or_false]at hn;rcases hn with rfl
 · obtain⟨r,e,h1,_⟩:=h;exact⟨r,e,h1.lt⟩
def rq (nm:ByteArray)(fA i z:Nat)(D:Option Addr)(L d:Nat)(nw:Int)(w0:World):Nat→Value→World→Prop
 | 0,v,_=>v = .pointer (some ⟨z,0,none⟩)
 | 1,v,_=>v = .string nm
 | 2,v,_=>v = .int .u8 (fA:Int)
 | 3,v,_=>v = .int .i64 (i:Int)
 | 4,v,_=>∃y,v = .int .u64 y∧y=(i:Int)
 | 5,v,_=>∃y,v = .int .u8 y
 | 6,v,_=>∃y,v = .int .u8 y
 | 7,v,_=>∃y,v = .bool y
 | 8,v,w=>∃E e,v = .agg #[.slice E 2 e,.int .i64 2]∧Own (aJ .i64) 3 w w0.heap.size (.slice E 2 e) (kL 2)
 | 9,v,_=>v = .agg #[.slice D L d,.int .i64 nw]
 | 10,v,w=>∃E e gg,v = .agg #[.string nm,.slice E 2 e,.int .i64 2,.slice D L d,.int .i64 nw,.bool gg]∧Own (aJ .i64) 3 w w0.heap.size (.slice E 2 e) (kL 2)
 | _,_,_=>True
theorem rq.stable (nm:ByteArray)(fA i z:Nat)(D:Option Addr)(L d:Nat)(nw:Int)(w0:World)(n:Nat)(v:Value)(w w':World)(h:rq nm fA i z D L d nw w0 n v w)(hr:Below w.heap.size w w'):rq nm fA i z D L d nw w0 n v w':=by
 match n,h with
 | 0,h=>exact h
 | 1,h=>exact h
 | 2,h=>exact h
 | 3,h=>exact h
 | 4,⟨y,e,h⟩=>exact⟨y,e,h⟩
 | 5,⟨y,e⟩=>exact⟨y,e⟩
 | 6,⟨y,e⟩=>exact⟨y,e⟩
 | 7,⟨y,e⟩=>exact⟨y,e⟩
 | 8,⟨E,e,h,h1⟩=>exact⟨E,e,h,h1.below hr (aj _)⟩
 | 9,h=>exact h
 | 10,⟨E,e,gg,h,h1⟩=>exact⟨E,e,gg,h,h1.below hr (aj _)⟩
 | _+11,_=>trivial
theorem rq.fresh (nm:ByteArray)(fA i z:Nat)(D:Option Addr)(L d:Nat)(nw:Int)(w0:World):∀n∈([]:List Nat),∀v w,rq nm fA i z D L d nw w0 n v w→∃q,v = .pointer (some ⟨q,0,none⟩)∧q<w.heap.size:=by
 intro n hn v w h;cases hn
def Ib(i:Nat):ByteArray:=if i=0 then ⟨#[65]⟩else if i=1 then ⟨#[66]⟩else ⟨#[84]⟩
theorem ae' (W:World)(i:Nat)(hi:i<3):(W.alloc (.cells #[.string ⟨#[65]⟩,.string ⟨#[66]⟩,.string ⟨#[84]⟩] 9)).cell? ⟨W.heap.size,i,none⟩=some (.string (Ib i)):=by
 rw[World.cell?_alloc_new]
 match i,hi with
 | 0,_=>rfl
 | 1,_=>rfl
 | 2,_=>rfl
theorem afa(i:Nat):(Ib i).size≤maxLen:=by unfold Ib;(repeat' split) <;> decide
structure PO (w0 w4 dn:World)(z:Nat)(x:aP):Prop where
 at_:jA dn z x
 rows:Own (aJ .i64) 3 dn w0.heap.size x.rv x.s.rx
 mH:Own (aJ .i64) 3 dn w0.heap.size x.cv x.s.cx
 ok:mV x.s
 dC:Below w4.heap.size w4 dn
 low:w4.heap.size≤z
theorem Iq {z lo:Nat}{x:aP}{xs:List Int}(h:Own (aJ .i64) 3 w lo v xs)(hn:jA w z x)(hg:w.grownBy w' (some z)):Own (aJ .i64) 3 w' lo v xs :=
 h.keep fun g _ hl e=>hg.block g hl fun q=>by
  injection q with q;subst q;obtain⟨_,cur,h3⟩:=h.lies e;unfold jA at hn;rw[hn]at h3;injection h3 with h3;injection h3 with _ h3 _;exact absurd h3 (by decide)
theorem aik (w:World)(A:Option Addr)(n cap:Nat)(xs:List Int)(hs:S8 w w.heap.size A n cap xs)(hn:n≤60)(fA:Nat)(hw:fA≤255) :
 Calls Tryz.prog 6 #[.slice A n cap,.int .u8 (fA:Int)] w fun e w'=>∃A1 c1 done,e = .returned (.slice A1 3 c1)∧mW w' w'.heap.size (.slice A1 3 c1) done∧(∀x∈done,mV x.s)∧Below w.heap.size w w':=by
 have HS:=ae hs;obtain⟨r6,hr6⟩:∃r,fA % 6=r:=⟨_,rfl⟩;have q6:(fA:Int) % 6=(r6:Int):=by omega
 have t6:(fA:Int).tmod 6=(r6:Int):=by rw[ql (by omega)];exact q6
 have ww:IntKind.i64.wrap (fA:Int)=(fA:Int):=by rw[gJ];omega
 have FZ:=ae (show r6<6 by omega);clear hs hr6;go_enter Tryz.func6,Tryz.ntmps6;go_upto_region 3 with fail
 go_loopw [5,6] (fun gq iv wr=>∃(i:Nat)(A1:Option Addr)(c1:Nat)(done:List aP),i≤3∧gq = .slice A1 i c1∧iv = .int .i64 (i:Int)∧Hid (done.length=i)∧Hid (um w wr (.slice A1 i c1) done))
  (fun _ iv _=>3 - (intOf iv).toNat)
 case atStart=>exact⟨0,none,0,[],by omega,rfl,rfl,ae rfl,ae (um.start w)⟩
 case round =>
  obtain⟨i,A1,c1,done,hi3,rfl,rfl,HD,aW⟩:=hrel;by_cases hlt:i<3
  · have hii:(i:Int)<3:=by omega
    have hi0:(0:Int)≤(i:Int):=by omega
    have hP1:n*i≤n*(i+1):=Nat.mul_le_mul_left n (by omega);have hP2:n*(i+1)≤n*3:=Nat.mul_le_mul_left n (by omega);obtain⟨P,hP⟩:∃P,n*i=P:=⟨_,rfl⟩;obtain⟨R,hR⟩:∃R,n*(i+1)=R:=⟨_,rfl⟩;rw[hP,hR]at hP1;rw[hR]at hP2;have aaK:(n:Int)*(i:Int)=(P:Int):=by rw[← hP];simp
    have fR:(n:Int)*((i:Int)+1)=(R:Int):=by rw[← hR];simp
    obtain⟨k1,hk1⟩:∃k,P / 3=k:=⟨_,rfl⟩;obtain⟨k2,hk2⟩:∃k,R / 3=k:=⟨_,rfl⟩;have d1:(P:Int) / 3=(k1:Int):=by omega
    have d2:(R:Int) / 3=(k2:Int):=by omega
    have u1:(P:Int).tdiv 3=(k1:Int):=by rw[Int.tdiv_eq_ediv_of_nonneg (by omega)];exact d1
    have u2:(R:Int).tdiv 3=(k2:Int):=by rw[Int.tdiv_eq_ediv_of_nonneg (by omega)];exact d2
    obtain⟨A',hsl,GZ⟩:=aal HS.o k1 k2 (by omega) (by omega);obtain⟨zs,hzs⟩:∃zs,(xs.drop k1).take (k2 - k1)=zs:=⟨_,rfl⟩;rw[hzs]at GZ;have hwr:Below w.heap.size w wr:=aW.o.dC;have SB:zs.length≤60:=by rw[GZ.hlen];omega
    have FX:=ae (aeP zs SB);obtain⟨X,nw,hm⟩:∃X nw,ng zs=(X,nw):=⟨_,_,rfl⟩
    have iU:=ae (show Calls Tryz.prog 16 #[.slice A' (k2 - k1) (cap - k1)] wr fun e w'=>Ei wr w' X nw e from by
     have h:=aek wr A' (k2 - k1) (cap - k1) zs ((GZ.below hwr (aj _)).mono hwr.size) (by omega);rw[hm]at h;exact h)
    rw[hm]at FX;have hPb:P≤180:=by omega
    have hRb:R≤180:=by omega
    clear hP hR hk1 hk2 hzs GZ SB hm hP1 hP2 hwr;go_upto_region 7 with (go_at_call 16;((with_reducible refine iU.o.mono ?_);rintro e w3 ⟨v,rfl,h1,h2⟩;obtain⟨D,d,hv⟩:=tC h1;subst hv;have gm:=ae h1;have HB3:=ae h2;clear h1 h2))
    have cu:=ae (Below.alloc (ak w3.heap.size w3) (aj _) (.cells #[.slice D X.length d,.int .i64 nw] 36));have gP:=ae (dI.new 36 w3 (.slice D X.length d) nw);obtain⟨b8,Ry⟩:∃q,w3.heap.size=q:=⟨_,rfl⟩;obtain⟨w4,hw4⟩:∃w4,w3.alloc (.cells #[.slice D X.length d,.int .i64 nw] 36)=w4:=⟨_,rfl⟩;rw[hw4]at cu gP ⊢;rw[Ry]at gP ⊢;have za:=ae ((aW.o.next HB3.o).next cu.o);have mg:=ae (show Own (aJ .i64) 3 w4 w.heap.size (.slice D X.length d) X from(gm.o.mono aW.o.dC.size).below cu.o (aj _));clear hw4 Ry cu gm HB3 iU aW aaK fR d1 d2 u1 u2 hsl;obtain⟨ys,nb,hys⟩:∃ys nb,mZ 4 (r6:Int)=(ys,nb):=⟨_,_,rfl⟩;have O5:=ae (show xZ ys nb from by have h:=aeO r6 FZ.o;rw[hys]at h;exact h)
    have sD:=ae (fun (W:World)(hW:Below w4.heap.size w4 W)=>(show Calls Tryz.prog 13 #[.int .i64 4,.int .i64 (r6:Int)] W fun e w'=>∃E e',e = .returned (.agg #[.slice E ys.length e',.int .i64 nb])∧Own (aJ .i64) 3 w' w4.heap.size (.slice E ys.length e') ys∧Below W.heap.size W w' from by
     refine(VC W 4 (r6:Int)).mono fun e w' h => ?_
     rw[hys]at h;obtain⟨v,he,h1,h2⟩:=h;obtain⟨E,e',hv⟩:=tC h1;subst hv;exact⟨E,e',he,h1.mono hW.size,h2⟩))
    have xP:=ae (fun W:World=>ae' W i hlt);obtain⟨nm,hnm⟩:∃nm,Ib i=nm:=⟨_,rfl⟩;have Al:=ae (show nm.size≤maxLen by rw[← hnm];exact afa i);rw[hnm]at xP;clear hys hnm
    go_cut [9] (fun M6 wx=>∃(dn:World)(z:Nat)(x:aP),dn=wx∧M6 = .pointer (some ⟨z,0,none⟩)∧Hid (PO w w4 dn z x))
    case first =>
     refine Xo (fun j=>decide (j<11)) [10] (fun u v=>Below u.heap.size u v) (sP nm fA r6 i D X.length d nw ys nb w4) _ _ [some 29,some 30,some 31,some 32,some 33,some 34,some 35,some 36,some 37,some 38,some 9,none] 8 rfl (by kernel_rfl) rfl (by rfl) (by decide +kernel) (fun _ _ _ h g=>h.trans (g.mono h.size)) (fun u=>ak _ _) (sP.stable nm fA r6 i D X.length d nw ys nb w4) (sP.fresh nm fA r6 i D X.length d nw ys nb w4) ?step ?fin
     case step =>
      intro i' oi hi hm x W hR hd;have hc:i'<11:=of_decide_eq_true hm;have kH:Below w4.heap.size w4 W:=(Below.drew (ak _ _)).trans hR;have h12:i'=0∨i'=1∨i'=2∨i'=3∨i'=4∨i'=5∨i'=6∨i'=7∨i'=8∨i'=9∨i'=10:=by omega
      clear hm hc;rcases h12 with rfl|rfl|rfl|rfl|rfl|rfl|rfl|rfl|rfl|rfl|rfl
      · simp only[List.getElem?_toArray,List.getElem?_cons_zero,aZ]at hi
        subst hi;rw[ag (show Region.wanted _ _=true from rfl)];intro K hK;simp only[jb,Act.put,List.setIfInBounds_toArray,List.set_cons_zero,List.set_cons_succ,Nat.reduceAdd,Nat.zero_add]at hK ⊢;go_simp
        (refine hK.o _ _ ?_ ?_ ?_ ?_;exact(fun h=>by cases h);exact(Below.alloc (ak _ _) (aj _) _);exact⟨_,rfl,xP.o W,by rw[lQ];omega⟩;exact(fun h=>absurd h (by decide)))
      · simp only[List.getElem?_toArray,List.getElem?_cons_zero,List.getElem?_cons_succ,aZ]at hi
        subst hi;rw[ag (show Region.wanted _ _=true from rfl)];intro K hK;simp only[jb,Act.put,List.setIfInBounds_toArray,List.set_cons_zero,List.set_cons_succ,Nat.reduceAdd,Nat.zero_add]at hK ⊢;go_simp
        (refine hK.o _ _ ?_ ?_ ?_ ?_;exact(fun h=>by cases h);exact ak _ _;exact rfl;exact(fun h=>absurd h (by decide)))
      · simp only[List.getElem?_toArray,List.getElem?_cons_zero,List.getElem?_cons_succ,aZ]at hi
        subst hi;rw[ag (show Region.wanted _ _=true from rfl)];obtain⟨g0,e0,q0,l0⟩:=(hd 0 (by decide +kernel) (by decide):sP nm fA r6 i D X.length d nw ys nb w4 0 (x 0) W);have t1:x 1 = .int .i64 (i:Int):=hd 1 (by decide +kernel) (by decide);intro K hK;simp only[jb,Act.put,List.setIfInBounds_toArray,List.set_cons_zero,List.set_cons_succ,Nat.reduceAdd,Nat.zero_add,e0,t1]at hK ⊢;go_simp
        (refine hK.o _ _ ?_ ?_ ?_ ?_;exact(fun h=>by cases h);exact(ak _ _);exact⟨g0,rfl,q0,l0⟩;exact(fun h=>absurd h (by decide)))
      · simp only[List.getElem?_toArray,List.getElem?_cons_zero,List.getElem?_cons_succ,aZ]at hi
        subst hi;rw[ag (show Region.wanted _ _=true from rfl)];obtain⟨g2,e2,q2,l2⟩:=(hd 2 (by decide +kernel) (by decide):sP nm fA r6 i D X.length d nw ys nb w4 2 (x 2) W);intro K hK;simp only[jb,Act.put,List.setIfInBounds_toArray,List.set_cons_zero,List.set_cons_succ,Nat.reduceAdd,Nat.zero_add,e2]at hK ⊢;go_simp
        (refine hK.o _ _ ?_ ?_ ?_ ?_;exact(fun h=>by cases h);exact ak _ _;exact rfl;exact(fun h=>absurd h (by decide)))
      · simp only[List.getElem?_toArray,List.getElem?_cons_zero,List.getElem?_cons_succ,aZ]at hi
        subst hi;rw[ag (show Region.wanted _ _=true from rfl)];obtain⟨c0,c1⟩:=(gP.o.over kH).cells;intro K hK;simp only[jb,Act.put,List.setIfInBounds_toArray,List.set_cons_zero,List.set_cons_succ,Nat.reduceAdd,Nat.zero_add]at hK ⊢;go_simp
        (refine hK.o _ _ ?_ ?_ ?_ ?_;exact(fun h=>by cases h);exact ak _ _;exact rfl;exact(fun h=>absurd h (by decide)))
      · simp only[List.getElem?_toArray,List.getElem?_cons_zero,List.getElem?_cons_succ,aZ]at hi
        subst hi;rw[ag (show Region.wanted _ _=true from rfl)];intro K hK;simp only[jb,Act.put,List.setIfInBounds_toArray,List.set_cons_zero,List.set_cons_succ,Nat.reduceAdd,Nat.zero_add]at hK ⊢;go_simp
        (refine hK.o _ _ ?_ ?_ ?_ ?_;exact(fun h=>by cases h);exact ak _ _;exact rfl;exact(fun h=>absurd h (by decide)))
      · simp only[List.getElem?_toArray,List.getElem?_cons_zero,List.getElem?_cons_succ,aZ]at hi
        subst hi;rw[ag (show Region.wanted _ _=true from rfl)];have t5:x 5 = .int .u8 (fA:Int):=hd 5 (by decide +kernel) (by decide);intro K hK;simp only[jb,Act.put,List.setIfInBounds_toArray,List.set_cons_zero,List.set_cons_succ,Nat.reduceAdd,Nat.zero_add,t5]at hK ⊢;go_simp
        (refine hK.o _ _ ?_ ?_ ?_ ?_;exact(fun h=>by cases h);exact ak _ _;exact rfl;exact(fun h=>absurd h (by decide)))
      · simp only[List.getElem?_toArray,List.getElem?_cons_zero,List.getElem?_cons_succ,aZ]at hi
        subst hi;rw[ag (show Region.wanted _ _=true from rfl)];have t6:x 6 = .int .i64 (fA:Int):=hd 6 (by decide +kernel) (by decide);intro K hK;simp only[jb,Act.put,List.setIfInBounds_toArray,List.set_cons_zero,List.set_cons_succ,Nat.reduceAdd,Nat.zero_add,t6]at hK ⊢;go_simp
        (refine hK.o _ _ ?_ ?_ ?_ ?_;exact(fun h=>by cases h);exact ak _ _;exact rfl;exact(fun h=>absurd h (by decide)))
      · simp only[List.getElem?_toArray,List.getElem?_cons_zero,List.getElem?_cons_succ,aZ]at hi
        subst hi;rw[ag (show Region.wanted _ _=true from rfl)];have t7:x 7 = .int .i64 (r6:Int):=hd 7 (by decide +kernel) (by decide);intro K hK;simp only[jb,Act.put,List.setIfInBounds_toArray,List.set_cons_zero,List.set_cons_succ,Nat.reduceAdd,Nat.zero_add,t7]at hK ⊢;go_simp;go_at_call 13;refine(sD.o _ kH).mono ?_;rintro e wa ⟨E,e,rfl,hr,hb⟩
        (refine hK.o _ _ ?_ ?_ ?_ ?_;exact(fun h=>by cases h);exact hb;exact⟨E,e,rfl,hr⟩;exact(fun h=>absurd h (by decide)))
      · simp only[List.getElem?_toArray,List.getElem?_cons_zero,List.getElem?_cons_succ,aZ]at hi
        subst hi;rw[ag (show Region.wanted _ _=true from rfl)];have t3:x 3 = .string nm:=hd 3 (by decide +kernel) (by decide);have t4:x 4 = .agg #[.slice D X.length d,.int .i64 nw]:=hd 4 (by decide +kernel) (by decide);obtain⟨Jr,e8,t8,k8⟩:=(hd 8 (by decide +kernel) (by decide):sP nm fA r6 i D X.length d nw ys nb w4 8 (x 8) W);intro K hK;simp only[jb,Act.put,List.setIfInBounds_toArray,List.set_cons_zero,List.set_cons_succ,Nat.reduceAdd,Nat.zero_add,t3,t4,t8]at hK ⊢;go_simp
        (refine hK.o _ _ ?_ ?_ ?_ ?_;exact(fun h=>by cases h);exact(ak _ _);exact⟨Jr,e8,rfl,k8⟩;exact(fun h=>absurd h (by decide)))
      · simp only[List.getElem?_toArray,List.getElem?_cons_zero,List.getElem?_cons_succ,aZ]at hi
        subst hi;rw[ag (show Region.wanted _ _=true from rfl)];intro K hK;simp only[jb,Act.put,List.setIfInBounds_toArray,List.set_cons_zero,List.set_cons_succ,Nat.reduceAdd,Nat.zero_add]at hK ⊢;go_simp
        (refine hK.o _ _ ?_ ?_ ?_ ?_;exact(fun h=>by cases h);exact Below.alloc (ak _ _) (aj _) _;exact⟨_,rfl,jA.new W uY,kH.size⟩;exact(fun _=>⟨_,rfl,aj _⟩))
     case fin =>
      intro x W hR hd hne;have kH:Below w4.heap.size w4 W:=(Below.drew (ak _ _)).trans hR;obtain⟨E,e9,t9,k9⟩:=(hd 9 (by decide) rfl:sP nm fA r6 i D X.length d nw ys nb w4 9 (x 9) W);obtain⟨z,tz,h1,h2⟩:=(hd 10 (by decide) rfl:sP nm fA r6 i D X.length d nw ys nb w4 10 (x 10) W);have JN:=ae k9;have HZ1:=ae h1;have HR3:=ae kH;have HZ2:=ae h2;clear hd hne hR k9 h1 kH h2;show wpAny _ _ _ _ 1 #[true,true,true,true,true,true,true,true,true,true,true,false] _ _;refine wpAny_of_held (S:=fun _=>True) 1 _ _ _ ?_;simp only[jb,Act.put,List.setIfInBounds_toArray,List.set_cons_zero,List.set_cons_succ,Nat.reduceAdd,Nat.zero_add,t9,tz];refine hO 11 (fun K hK => ?_);refine Jm (.tmp 9) (.tmp 38) rfl z uY ⟨⟨nm,false,X,nw,ys,nb⟩,D,d,E,e9,Al.o⟩ rfl rfl HZ1.o ?_;intro w7 k1 k2;refine hK.o undef _ trivial ?_;clear hK K;simp only[Act.put];refine wpAnyH_done (by kernel_rfl) ?_ _;go_wp2_with fail
      go_meet;refine⟨_,_,⟨⟨nm,false,X,nw,ys,nb⟩,D,d,E,e9,Al.o⟩,rfl,rfl,ae ⟨k1, ?_, ?_,⟨FX.o,O5.o⟩, ?_,HZ2.o⟩⟩
      · exact Iq (mg.o.below HR3.o (aj _)) HZ1.o k2
      · exact(Iq JN.o HZ1.o k2).mono za.o.dC.size
      · exact zo HR3.o k2 HZ2.o HR3.o.size
    case rest =>
    obtain⟨w5,z,sx,rfl,rfl,HB⟩:=hcut;clear sD xP Al O5;obtain⟨nm,hnm⟩:∃nm,sx.s.sh=nm:=⟨_,rfl⟩;have Al:=ae (show nm.size≤maxLen by rw[← hnm];exact sx.z);have nX:=ae (show ∀W:World,Below w5.heap.size w5 W→W.cell? ⟨z,0,none⟩=some (.string nm)from fun W hW=>by rw[← hnm];exact(HB.o.at_.over hW).cells.1);have gP:=ae (gP.o.over HB.o.dC);have HV5:=ae (za.o.next HB.o.dC);have mQ:=ae (mg.o.below HB.o.dC (aj _))
    have F5:=ae (fun (W:World)(hW:Below w5.heap.size w5 W)=>(show Calls Tryz.prog 14 #[.int .i64 2] W fun e w'=>∃E e',e = .returned (.agg #[.slice E 2 e',.int .i64 2])∧Own (aJ .i64) 3 w' w5.heap.size (.slice E 2 e') (kL 2)∧Below W.heap.size W w' from by
     refine(NC W 2).mono fun e w' h => ?_
     rw[show jg 2=2 from by decide]at h;obtain⟨v,he,h1,h2⟩:=h;obtain⟨E,e',hv⟩:=tC h1;subst hv;exact⟨E,e',he,h1.mono hW.size,h2⟩))
    clear hnm;go_upto_if 44 with fail
    go_cut [] (fun wx=>∃(dn:World)(x2:aP),dn=wx∧Hid (PO w w4 dn z x2))
    case first =>
     by_cases hb:0<bits BinOp.and IntKind.u8 ((fA:Int) / 2 ^ i) 8
     · go_upto_region 9 with fail
       generalize decide (0<bits BinOp.and IntKind.u8 ((fA:Int) / 2 ^ i) 8)=bb;clear hb;refine Xo (fun j=>decide (j<11)) [] (fun u v=>Below u.heap.size u v) (rq nm fA i z D X.length d nw w5) _ _ [some 45,some 46,some 47,some 48,some 49,some 50,some 51,some 52,some 53,some 54,some 55,none] 8 rfl (by kernel_rfl) rfl (by rfl) (by decide +kernel) (fun _ _ _ h g=>h.trans (g.mono h.size)) (fun u=>ak _ _) (rq.stable nm fA i z D X.length d nw w5) (rq.fresh nm fA i z D X.length d nw w5) ?step ?fin
       case step =>
        intro i' oi hi hm x W hR hd;have hc:i'<11:=of_decide_eq_true hm;have kH:Below w5.heap.size w5 W:=(Below.drew (ak _ _)).trans hR;have h12:i'=0∨i'=1∨i'=2∨i'=3∨i'=4∨i'=5∨i'=6∨i'=7∨i'=8∨i'=9∨i'=10:=by omega
        clear hm hc;rcases h12 with rfl|rfl|rfl|rfl|rfl|rfl|rfl|rfl|rfl|rfl|rfl
        · simp only[List.getElem?_toArray,List.getElem?_cons_zero,aZ]at hi
          subst hi;rw[ag (show Region.wanted _ _=true from rfl)];intro K hK;simp only[jb,Act.put,List.setIfInBounds_toArray,List.set_cons_zero,List.set_cons_succ,Nat.reduceAdd,Nat.zero_add]at hK ⊢;go_simp
          (refine hK.o _ _ ?_ ?_ ?_ ?_;exact(fun h=>by cases h);exact ak _ _;exact rfl;exact(fun h=>absurd h (by decide)))
        · simp only[List.getElem?_toArray,List.getElem?_cons_zero,List.getElem?_cons_succ,aZ]at hi
          subst hi;rw[ag (show Region.wanted _ _=true from rfl)];have t0:x 0 = .pointer (some ⟨z,0,none⟩):=hd 0 (by decide +kernel) (by decide);have y0:=nX.o W kH;intro K hK;simp only[jb,Act.put,List.setIfInBounds_toArray,List.set_cons_zero,List.set_cons_succ,Nat.reduceAdd,Nat.zero_add,t0]at hK ⊢;go_simp
          (refine hK.o _ _ ?_ ?_ ?_ ?_;exact(fun h=>by cases h);exact ak _ _;exact rfl;exact(fun h=>absurd h (by decide)))
        · simp only[List.getElem?_toArray,List.getElem?_cons_zero,List.getElem?_cons_succ,aZ]at hi
          subst hi;rw[ag (show Region.wanted _ _=true from rfl)];intro K hK;simp only[jb,Act.put,List.setIfInBounds_toArray,List.set_cons_zero,List.set_cons_succ,Nat.reduceAdd,Nat.zero_add]at hK ⊢;go_simp
          (refine hK.o _ _ ?_ ?_ ?_ ?_;exact(fun h=>by cases h);exact ak _ _;exact rfl;exact(fun h=>absurd h (by decide)))
        · simp only[List.getElem?_toArray,List.getElem?_cons_zero,List.getElem?_cons_succ,aZ]at hi
          subst hi;rw[ag (show Region.wanted _ _=true from rfl)];intro K hK;simp only[jb,Act.put,List.setIfInBounds_toArray,List.set_cons_zero,List.set_cons_succ,Nat.reduceAdd,Nat.zero_add]at hK ⊢;go_simp
          (refine hK.o _ _ ?_ ?_ ?_ ?_;exact(fun h=>by cases h);exact ak _ _;exact rfl;exact(fun h=>absurd h (by decide)))
        · simp only[List.getElem?_toArray,List.getElem?_cons_zero,List.getElem?_cons_succ,aZ]at hi
          subst hi;rw[ag (show Region.wanted _ _=true from rfl)];have t3:x 3 = .int .i64 (i:Int):=hd 3 (by decide +kernel) (by decide);intro K hK;simp only[jb,Act.put,List.setIfInBounds_toArray,List.set_cons_zero,List.set_cons_succ,Nat.reduceAdd,Nat.zero_add,t3]at hK ⊢;go_simp
          (refine hK.o _ _ ?_ ?_ ?_ ?_;exact(fun h=>by cases h);exact(ak _ _);exact⟨_,rfl,by rw[IntKind.wrap_u64];omega⟩;exact(fun h=>absurd h (by decide)))
        · simp only[List.getElem?_toArray,List.getElem?_cons_zero,List.getElem?_cons_succ,aZ]at hi
          subst hi;rw[ag (show Region.wanted _ _=true from rfl)];have t2:x 2 = .int .u8 (fA:Int):=hd 2 (by decide +kernel) (by decide);obtain⟨y4,t4,u4⟩:=(hd 4 (by decide +kernel) (by decide):rq nm fA i z D X.length d nw w5 4 (x 4) W);subst u4;intro K hK;simp only[jb,Act.put,List.setIfInBounds_toArray,List.set_cons_zero,List.set_cons_succ,Nat.reduceAdd,Nat.zero_add,t2,t4]at hK ⊢;go_simp
          (refine hK.o _ _ ?_ ?_ ?_ ?_;exact(fun h=>by cases h);exact(ak _ _);exact⟨_,rfl⟩;exact(fun h=>absurd h (by decide)))
        · simp only[List.getElem?_toArray,List.getElem?_cons_zero,List.getElem?_cons_succ,aZ]at hi
          subst hi;rw[ag (show Region.wanted _ _=true from rfl)];obtain⟨dH,t5⟩:=(hd 5 (by decide +kernel) (by decide):rq nm fA i z D X.length d nw w5 5 (x 5) W);intro K hK;simp only[jb,Act.put,List.setIfInBounds_toArray,List.set_cons_zero,List.set_cons_succ,Nat.reduceAdd,Nat.zero_add,t5]at hK ⊢;go_simp
          (refine hK.o _ _ ?_ ?_ ?_ ?_;exact(fun h=>by cases h);exact(ak _ _);exact⟨_,rfl⟩;exact(fun h=>absurd h (by decide)))
        · simp only[List.getElem?_toArray,List.getElem?_cons_zero,List.getElem?_cons_succ,aZ]at hi
          subst hi;rw[ag (show Region.wanted _ _=true from rfl)];obtain⟨y6,t6⟩:=(hd 6 (by decide +kernel) (by decide):rq nm fA i z D X.length d nw w5 6 (x 6) W);intro K hK;simp only[jb,Act.put,List.setIfInBounds_toArray,List.set_cons_zero,List.set_cons_succ,Nat.reduceAdd,Nat.zero_add,t6]at hK ⊢;go_simp
          (refine hK.o _ _ ?_ ?_ ?_ ?_;exact(fun h=>by cases h);exact(ak _ _);exact⟨_,rfl⟩;exact(fun h=>absurd h (by decide)))
        · simp only[List.getElem?_toArray,List.getElem?_cons_zero,List.getElem?_cons_succ,aZ]at hi
          subst hi;rw[ag (show Region.wanted _ _=true from rfl)];intro K hK;simp only[jb,Act.put,List.setIfInBounds_toArray,List.set_cons_zero,List.set_cons_succ,Nat.reduceAdd,Nat.zero_add]at hK ⊢;go_simp;go_at_call 14;refine(F5.o _ kH).mono ?_;rintro e wa ⟨E,e,rfl,hr,hb⟩
          (refine hK.o _ _ ?_ ?_ ?_ ?_;exact(fun h=>by cases h);exact hb;exact⟨E,e,rfl,hr⟩;exact(fun h=>absurd h (by decide)))
        · simp only[List.getElem?_toArray,List.getElem?_cons_zero,List.getElem?_cons_succ,aZ]at hi
          subst hi;rw[ag (show Region.wanted _ _=true from rfl)];obtain⟨c0,c1⟩:=(gP.o.over kH).cells;intro K hK;simp only[jb,Act.put,List.setIfInBounds_toArray,List.set_cons_zero,List.set_cons_succ,Nat.reduceAdd,Nat.zero_add]at hK ⊢;go_simp
          (refine hK.o _ _ ?_ ?_ ?_ ?_;exact(fun h=>by cases h);exact ak _ _;exact rfl;exact(fun h=>absurd h (by decide)))
        · simp only[List.getElem?_toArray,List.getElem?_cons_zero,List.getElem?_cons_succ,aZ]at hi
          subst hi;rw[ag (show Region.wanted _ _=true from rfl)];have t1:x 1 = .string nm:=hd 1 (by decide +kernel) (by decide);obtain⟨ll,t7⟩:=(hd 7 (by decide +kernel) (by decide):rq nm fA i z D X.length d nw w5 7 (x 7) W);obtain⟨Jr,e8,t8,k8⟩:=(hd 8 (by decide +kernel) (by decide):rq nm fA i z D X.length d nw w5 8 (x 8) W);have t9:x 9 = .agg #[.slice D X.length d,.int .i64 nw]:=hd 9 (by decide +kernel) (by decide);intro K hK;simp only[jb,Act.put,List.setIfInBounds_toArray,List.set_cons_zero,List.set_cons_succ,Nat.reduceAdd,Nat.zero_add,t1,t7,t8,t9]at hK ⊢;go_simp
          (refine hK.o _ _ ?_ ?_ ?_ ?_;exact(fun h=>by cases h);exact(ak _ _);exact⟨Jr,e8,ll,rfl,k8⟩;exact(fun h=>absurd h (by decide)))
       case fin =>
        intro x W hR hd hne;have kH:Below w5.heap.size w5 W:=(Below.drew (ak _ _)).trans hR;obtain⟨E,e10,gg,t10,k10⟩:=(hd 10 (by decide) rfl:rq nm fA i z D X.length d nw w5 10 (x 10) W);have t0:x 0 = .pointer (some ⟨z,0,none⟩):=hd 0 (by decide) rfl;have JN:=ae k10;have HZ1:=ae (HB.o.at_.over kH);have HR3:=ae kH;clear hd hne hR k10 kH;show wpAny _ _ _ _ 1 #[true,true,true,true,true,true,true,true,true,true,true,false] _ _;refine wpAny_of_held (S:=fun _=>True) 1 _ _ _ ?_;simp only[jb,Act.put,List.setIfInBounds_toArray,List.set_cons_zero,List.set_cons_succ,Nat.reduceAdd,Nat.zero_add,t10];refine hO 11 (fun K hK => ?_);refine Jm (.tmp 9) (.tmp 55) rfl z sx ⟨⟨nm,gg,kL 2,2,X,nw⟩,E,e10,D,d,Al.o⟩ rfl rfl HZ1.o ?_;intro w7 k1 k2;refine hK.o undef _ trivial ?_;clear hK K;simp only[Act.put];refine wpAnyH_done (by kernel_rfl) ?_ _;go_wp2_with fail
        go_meet;refine⟨_,⟨⟨nm,gg,kL 2,2,X,nw⟩,E,e10,D,d,Al.o⟩,rfl,ae ⟨k1, ?_, ?_,⟨?_,FX.o⟩, ?_,HB.o.low⟩⟩
        · exact(Iq JN.o HZ1.o k2).mono HV5.o.dC.size
        · exact Iq (mQ.o.below HR3.o (aj _)) HZ1.o k2
        · have h:=aeQ 2;rw[show jg 2=2 from by decide]at h;exact h
        · exact zo (HB.o.dC.trans (HR3.o.mono HB.o.dC.size)) k2 HB.o.low (bN HB.o.dC.size HR3.o.size)
     · go_wp2_with fail
       go_meet;exact⟨_,sx,rfl,HB⟩
    case rest =>
    obtain⟨w6,x2,rfl,iR⟩:=hcut;clear F5 nX Al mQ HV5 HB gP;obtain⟨x0,x1,x2',x3,x4,x5⟩:=iR.o.at_.cells;replace x1:w6.cell? ⟨z,1,none⟩=some (.slice x2.ra x2.s.rx.length x2.rc):=x1;replace x3:w6.cell? ⟨z,3,none⟩=some (.slice x2.ca x2.s.cx.length x2.cc):=x3;have BZ:=ae (show Below w6.heap.size w6 (w6.alloc (.cells #[.string x2.s.sh,.slice x2.ra x2.s.rx.length x2.rc,.int .i64 x2.s.rn,.slice x2.ca x2.s.cx.length x2.cc,.int .i64 x2.s.cn,.bool x2.s.gone] 40))from Below.alloc (ak _ _) (aj _) _);have Kn:=ae ((za.o.next iR.o.dC).next BZ.o);have F9:=ae (show Own (aJ .i64) 3 _ w.heap.size x2.rv x2.s.rx∧Own (aJ .i64) 3 _ w.heap.size x2.cv x2.s.cx from⟨iR.o.rows.below BZ.o (aj _),iR.o.mH.below BZ.o (aj _)⟩);have jw:=ae Elem.sf;have hdl:=HD.o;clear za mg FX;go_wp2_with (at_builtin;refine xG jw.o Cw rfl (.tmp 56) (.tmp 58) rfl w.heap.size (.slice A1 i c1) done rfl Kn.o.own ⟨w6.heap.size,0,none⟩ 1 1 [x2] rfl rfl ?_ ?_ ?_ ?_ ?_;exact gD _ _ _ rfl;omega;(unfold maxLen;omega);(have h1:=Kn.o.dC.size;exact h1);intro v8 w8 h1 h2 _;obtain⟨Jo,c8,EJ⟩:=tC h1;simp only[ax,fo,HD.o]at EJ;subst EJ;have YK:=ae (Kn.o.put x2 F9.o iR.o.ok h1 h2);clear h1 h2)
    go_roundw
    case rel=>exact⟨i+1,Jo,c8,done++[x2],by omega,rfl,by go_num,ae (by rw[ax,HD.o];rfl),YK⟩
    case measure=>simp[intOf];omega
  · have hii:¬ (i:Int)<3:=by omega
    have Ez:i=3:=by omega
    subst Ez;go_wp2_with fail
    go_ret
    first
     | exact⟨A1,c1,done,rfl,aW.o.VY,aW.o.ok,aW.o.dC⟩
     | exact⟨A1,c1,rfl,done,aW.o.VY,aW.o.ok,aW.o.dC⟩
theorem ahC (n:Nat)(hn:n≤1000)(w:World):(Instr.makeSlice 24 (.int .i64 (n:Int)) (.int .i64 (n:Int))).run Tryz.prog w = .ok (.slice (some ⟨w.heap.size,0,none⟩) n n) (w.alloc (.cells (madeCells qi (n*14)) 44)):=by
 have abQ:(Tryz.prog.info? 44).map (fun i=>(i.zero,i.size,i.bytes))=some (some (.agg qi),14,136):=by kernel_rfl
 obtain⟨i,hi,hzz⟩:=Option.map_eq_some_iff.1 abQ;simp only[bH]at hzz;obtain⟨hz,hs,hb⟩:=hzz;have hr:=run_make (P:=Tryz.prog) w 24 44 i _ Tryz.underlying24 hi hz .i64 .i64 n n (by omega) (Int.le_refl _) (by rw[hb];omega) (by omega);simp only[Int.toNat_natCast,hs]at hr;exact hr
theorem aeh (w:World)(n:Nat):(w.alloc (.cells (madeCells qi (n*14)) 44)).there w.heap.size 0 (n*14):=fun j hj=>by
 have hb:=(lu w (.cells (madeCells qi (n*14)) 44)).1;refine⟨?_,frozen_of_row _ _ _ _ _ hb⟩;rw[cell_of_row _ _ _ _ _ _ hb];unfold madeCells;rw[Array.getElem?_map,Array.getElem?_range,ag (by omega)];rfl
theorem VW (b:Nat):∀(vs:List Value)(o:Nat)(w:World)(k:Nat),k≠b→(w.setCells b o vs).heap[k]? = w.heap[k]?
 | [],_,_,_,_=>rfl
 | v :: r,o,w,k,h=>by rw[World.setCells,VW b r (o+1) _ k h];exact gy _ _ _ _ h
theorem VX (b:Nat):∀(vs:List Value)(o:Nat)(w:World),(w.setCells b o vs).heap.size=w.heap.size
 | [],_,_=>rfl
 | v :: r,o,w=>by rw[World.setCells,VX b r (o+1)];simp
theorem VU {a:World}(b:Nat)(hB:B≤b):∀(vs:List Value)(o:Nat)(w:World),Below B a w→Below B a (w.setCells b o vs)
 | [],_,_,h=>h
 | _ :: r,o,_,h=>VU b hB r (o+1) _ (h.setCell hB _)
structure yg (w:World)(T n:Nat)(done:List (Nd × Value)):Prop where
 th:w.there T 0 (n*14)
 at_:∀(j:Nat) p,done[j]? = some p→w.rangeAt T (j*14) (bA p.1 p.2).toList
 kids:∀p∈done,Own (aJ .i64) 3 w (T+1) p.2 p.1.kids
 lt:T<w.heap.size
theorem yg.below (h:yg w T n done)(hb:Below w.heap.size w w'):yg w' T n done :=
 ⟨fun j hj=>by rw[gK (a:=⟨T,0+j,none⟩) (hb.block T h.lt)];exact⟨(h.th j hj).1,(World.frozen?_of_block (w:=w) (a:=⟨T,0+j,none⟩) (hb.block T h.lt)).trans (h.th j hj).2⟩,
  fun j p hp q u hu=>(hb.cell (p:=⟨T,_,none⟩) h.lt).trans (h.at_ j p hp q u hu),fun p hp=>(h.kids p hp).below hb (aj _),eB h.lt hb.size⟩
theorem yg.put (h:yg w T n done)(hn:done.length<n)(N:Nd)(K:Value)(hk:Own (aJ .i64) 3 w (T+1) K N.kids):yg (w.setCells T (done.length*14) (bA N K).toList) T n (done++[(N,K)]):=by
 have hth:w.there T (done.length*14) 14:=fun j hj=>by
  have:=h.th (done.length*14+j) (by omega);rwa[Nat.zero_add]at this
 refine⟨World.there_setCells h.th _ _ _,fun j p hp => ?_,fun p hp => ?_,by rw[VX];exact h.lt⟩
 · rw [List.getElem?_append]at hp
   split at hp
   · rename_i hj
     exact World.rangeAt_setCells_apart (h.at_ j p hp) _ _ _ (.inr (.inl (by show j*14+14≤_;omega)))
   · rename_i hj
     have e:=(eQ.1 hp).1;have hj2:j=done.length:=by simp at e;omega
     subst hj2;rw[Nat.sub_self]at hp;have hp2:(N,K)=p:=by simpa using hp
     subst hp2;exact World.rangeAt_setCells_same _ _ _ _ hth
 · have hp2:Own (aJ .i64) 3 w (T+1) p.2 p.1.kids:=by
    rcases dQ.1 hp with hp|hp
    · exact h.kids p hp
    · rw[gM.1 hp];exact hk
   exact hp2.keep fun g h1 h2 _=>VW T _ _ _ g (by omega)
theorem yg.sn (h:yg w T n done)(hl:done.length=n):dN w w.heap.size (.slice (some ⟨T,0,none⟩) n n) done:=by
 refine⟨⟨_,n,by rw[hl],.inr ⟨T,0,rfl,h.lt,fun i m k hi j hj => ?_⟩⟩,fun p hp=>(h.kids p hp).V8⟩;have hj2:(bA m k).toList[j]? = some ((bA m k).toList[j]'hj):=cZ _;rw[hj2,Nat.zero_add];exact h.at_ i _ hi j _ hj2
theorem dN.range {A:Option Addr}{cap:Nat}{l:List (Nd × Value)}(h:dN w B (.slice A n cap) l){i:Nat}{p:Nd × Value}(hi:l[i]? = some p):∃pb po,A=some ⟨pb,po,none⟩∧pb<B∧w.rangeAt pb (po+i*14) (bA p.1 p.2).toList:=by
 obtain⟨⟨A',qA,e,h1⟩,_⟩:=h;injection e with e1 e2 e3;subst e1;rcases h1 with rfl|⟨pb,po,h1,h2,h3⟩
 · cases hi
 · exact ⟨pb,po,h1,h2,fun j v hv=>by
    have hj:j<14:=(eQ.1 hv).1;rw[h3 i p.1 p.2 hi j hj];exact hv⟩
structure PH (l:List (Nd × Value)):Prop where
 len:l.length≤1000
 sm:∀p∈l,zi p.1
 kids:∀p∈l,p.1.kids.length≤1000000
theorem aew (w:World)(own:ByteArray)(mb:Nat)(xs:List aP)(A:Option Addr)(n cap:Nat)(l:List (Nd × Value))(hM:jy w mb (rP xs))(hX:∀x∈xs,nJ w w.heap.size x)(hO:∀x∈xs,mV x.s)(ho:own.size≤maxLen)(hs:dN w w.heap.size (.slice A n cap) l)(hl:l.length=n)(hi:PH l) :
 Calls Tryz.prog 21 #[.slice A n cap,.func (.func 23) #[.agg #[.string own,.map (some mb)]] #[]] w fun e w'=>∃done,e = .returned (.slice (some ⟨w.heap.size,0,none⟩) n n)∧dN w' w'.heap.size (.slice (some ⟨w.heap.size,0,none⟩) n n) done∧done.map (·.1)=jo own (eH xs) (l.map (·.1))∧Below w.heap.size w w':=by
 have HM:=ae hM;have HX:=ae hX;have HO:=ae hO;have HOW:=ae ho;have HS:=ae hs;have HL:=ae hl;have HI:=ae hi;have hn:n≤1000:=by have:=hi.len;omega
 clear hM hX hO ho hs hl hi;have hmk:=fun w=>ahC n hn w
 have HT:=ae (aeh w n);have HB0:=ae ((ak w.heap.size w).alloc (aj _) (.cells (madeCells qi (n*14)) 44));have cK:=ae (lQ w (.cells (madeCells qi (n*14)) 44));go_enter Tryz.func21,Tryz.ntmps21;go_upto_region 3 with (fail)
 obtain⟨w1,hw1⟩:∃w1,w.alloc (.cells (madeCells qi (n*14)) 44)=w1:=⟨_,rfl⟩;rw[hw1]at HT HB0 cK ⊢;clear hw1 hmk;obtain⟨T,Rt⟩:∃T,w.heap.size=T:=⟨_,rfl⟩;have jR:=ae Rt;rw[Rt]at HT HB0 cK ⊢
 go_loopw [13] (fun iv wr=>∃(i:Nat)(done:List (Nd × Value)),i≤n∧iv = .int .i64 (i:Int)∧Hid (done.length=i)∧Hid (done.map (·.1)=(jo own (eH xs) (l.map (·.1))).take i)∧Hid (yg wr T n done)∧Hid (Below T w wr))
  (fun iv _=>n - (intOf iv).toNat)
 case atStart=>exact⟨0,[],ek _,rfl,ae rfl,ae rfl,ae ⟨HT.o,fun j p h=>(by cases h),fun p h=>(by cases h),by have:=cK.o;omega⟩,HB0⟩
 case round =>
  obtain⟨i,done,hin,rfl,HD,DY,HR,HB⟩:=hrel;by_cases hlt:i<n
  · have hii:(i:Int)<(n:Int):=by omega
    have hi0:(0:Int)≤(i:Int):=by omega
    obtain⟨⟨q,k⟩,hq⟩:∃p,l[i]? = some p:=⟨_,cZ (by rw[HL.o];exact hlt)⟩;obtain⟨pb,po,rfl,hpb,hrg⟩:=HS.o.range hq;have bW:=fe hq;have hpT:pb<T:=by rw[← jR.o];exact hpb
    have J8:=ae (show wr.rangeAt pb (po+i*14) (bA q k).toList from fun j v hv=>(HB.o.cell (p:=⟨pb,_,none⟩) hpT).trans (hrg j v hv));have hbw:w.heap.size≤wr.heap.size:=HB.o.size;have hki:=(HS.o.2 _ bW);obtain⟨A2,c2,kI,_⟩:=hki;obtain⟨L,hL⟩:∃L,q.kids.length=L:=⟨_,rfl⟩;have kI:k = .slice A2 q.kids.length c2:=kI;rw[hL]at kI;subst kI;have hq1:=HI.o.sm _ bW;have hq2:q.kids.length≤1000000:=HI.o.kids _ bW
    have fC:=ae (fun (wq:World)(hb:Below wr.heap.size wr wq)=>(show Calls Tryz.prog 23 #[.agg #[.string own,.map (some mb)],.agg (aB q (.slice A2 L c2))] wq (PI wq (jD own (eH xs) q))from by
     have hbb:Below w.heap.size w wq:=by
      have h0:=HB.o;rw[← jR.o]at h0;exact h0.trans (hb.mono hbw)
     refine aeV wq own mb xs q A2 L c2 (HM.o.below hbb HM.o.lt) (fun x hx=>(HX.o x hx).lift hbb) HO.o HOW.o hq1 ?_ (by omega);exact((HS.o.2 _ bW).below hbb (aj _)).mono hbb.size))
    have aT:=ae (show(jo own (eH xs) (l.map (·.1))).take (i+1)=(jo own (eH xs) (l.map (·.1))).take i++[jD own (eH xs) q]from by
     rw[List.take_add_one];unfold jo;rw[gY,gY,hq];rfl)
    clear hrg bW hq hq1 hq2 hL
    go_upto_region 5 with (first
     | (refine wpList_load_mid rfl 44 (.tmp 16) rfl pb (po+i*14) rfl (bA q (.slice A2 L c2)).toList _ J8.o Tryz.underlying44 rfl zJ ?_)
     | (refine lh rfl (.tmp 7) (.tmp 17) rfl wr.heap.size Nd.zero q (.slice none 0 0) (.slice A2 L c2) rfl rfl (az.new wr Nd.zero (.slice none 0 0)) rfl ?_;intro w4 k1 k2))
    have qo:=ae k1;have cu:=ae (zo ((ak wr.heap.size wr).alloc (aj _) (.cells (bA Nd.zero (.slice none 0 0)) 44)) k2 (aj _) (by simp));clear k1 k2;simp only[Act.put];obtain⟨x0,x1,x2,x3,x4,x5,x6,x7,av,aI,aF,aG,aH,aC⟩:=qo.o.cells;obtain⟨N,hN⟩:∃N,jD own (eH xs) q=N:=⟨_,rfl⟩;rw[hN]at fC aT;clear hN
    go_upto_region 6 with (first
     | (go_at_call 23;((with_reducible refine(fC.o _ cu.o).mono ?_);rintro e w5 ⟨K0,rfl,hK1,hkk,hq⟩;have Ao:=ae ((HR.o.below cu.o).below hq);have jQ:=ae (hkk.mono (bN HR.o.lt cu.o.size));have jH:=ae hK1;have eX:=ae (cu.o.trans (hq.mono cu.o.size));clear hK1 hkk hq;have YG:=ae (show w5.there T (i*14) 14 from fun j hj=>(by have h:=Ao.o.th (i*14+j) (by omega);rwa[Nat.zero_add]at h))))
     | (refine wpList_store_mid rfl 44 (.tmp 23) (.tmp 22) rfl T (i*14) (bA N K0) rfl rfl YG.o zJ (Array.all_eq_true_iff_forall_mem.2 (fun v hv=>EW N K0 jH.o v (by simpa using hv))) ?_))
    have hd:=HD.o;subst hd;have FZ:=ae (Ao.o.put hlt N K0 jQ.o);have iR:=ae (VU (B:=T) (a:=w) T (aj _) (bA N K0).toList (done.length*14) w5 (HB.o.trans (eX.o.mono (Nat.le_of_lt HR.o.lt))));clear x0 x1 x2 x3 x4 x5 x6 x7 av aI aF aG aH aC;obtain⟨w6,nM⟩:∃w6,w5.setCells T (done.length*14) (bA N K0).toList=w6:=⟨_,rfl⟩;rw[nM]at FZ iR ⊢;clear nM;simp only[Act.put];go_wp2_with fail
    go_roundw
    case rel=>exact⟨done.length+1,done++[(N,K0)],by omega,by go_num,ae (by rw[ax];rfl),ae (by rw[iL,DY.o,aT.o];rfl),FZ,iR⟩
    case measure=>simp[intOf];omega
  · have hii:¬ (i:Int)<(n:Int):=by omega
    have Ez:i=n:=by omega
    subst Ez;go_wp2_with fail
    go_ret;have k1:done.map (·.1)=jo own (eH xs) (l.map (·.1)):=by rw[DY.o];exact mP (by rw[H7,eF,HL.o];exact aj _)
    exact⟨rfl,done,HR.o.sn HD.o,k1,HB.o⟩
def j3:List ByteArray:=[⟨#[61]⟩,⟨#[60,62]⟩,⟨#[60]⟩,⟨#[60,61]⟩,⟨#[62]⟩,⟨#[62,61]⟩,⟨#[38]⟩,⟨#[43]⟩,⟨#[45]⟩,⟨#[42]⟩,⟨#[47]⟩]
def rk(o:Nat):Nat:=if o<6 then 0 else if o<7 then 1 else if o<9 then 2 else 3
theorem NB (o:Nat):rk o≤3:=by
 unfold rk;by_cases h1:o<6
 · rw[ag h1];omega
 · rw [af h1]
   by_cases h2:o<7
   · rw[ag h2];omega
   · rw[af h2]
     by_cases h3:o<9
     · rw[ag h3];omega
     · rw[af h3];omega
theorem MZ (t:ah)(ts:List ah)(o:Nat)(ho:o<11)(hk:t.kind=5)(ht:t.text=j3.getD o ⟨#[]⟩)(n:Nat)(hn:n≤3):fH n (t :: ts)=if rk o=n then 9+(o:Int)else 0:=by
 have hs:∀s:ByteArray,ay s (t :: ts)=decide (j3.getD o ⟨#[]⟩=s):=by
  intro s;unfold ay;simp only[hk,ht,decide_true,gV]
 unfold fH;simp only[hs];have key:∀n:Nat,n<4→∀o:Nat,o<11→(match (gp n).find? (fun p=>decide (j3.getD o ⟨#[]⟩=p.1))with|some p=>p.2|none=>0)=if rk o=n then 9+(o:Int)else 0:=by decide +kernel
 exact key n (by omega) o ho
def Stop(n:Nat)(ts:List ah):Prop:=∀m,n≤m→m≤3→fH m ts=0
def zD(p:Nat)(l:List Int):Option (List ah):=fE l.length p l
theorem adT(p:Nat):zD p []=some [ah.zero.goto p]:=by unfold zD fE;rfl
theorem adU (p:Nat)(x:Int)(l:List Int)(t:ah)(n:Nat)(hx:x≠32)(h:fJ (x :: l)=some (t,n)):zD p (x :: l)=(zD (p+n) ((x :: l).drop n)).map (t.goto p :: ·):=by
 have hn:=rY _ _ _ h;unfold zD;rw[bf,tq,af hx,h];simp only;rw[Hu _ ((x :: l).drop n).length _ _ (by rw[lq];simp only[bf];omega) (aj _)]
theorem adS (p:Nat)(a b:List Int)(t:ah)(ha:∀x,a.head? = some x→x≠32)(h:fJ (a++b)=some (t,a.length)):zD p (a++b)=(zD (p+a.length) b).map (t.goto p :: ·):=by
 cases a with
 | nil=>have:=(rY _ _ _ h).1;simp at this
 | cons x a =>
   rw[dE]at h ⊢;rw[adU p x (a++b) t _ (ha x rfl) h];congr 2;rw[← dE,List.drop_left]
theorem ajo (v:Nat)(hv:v≤9223372036854775807)(b:List Int)(hb:∀x,b.head? = some x→isNum x=false):fJ (bn v++b)=some ({ ah.zero with kind:=1,num:=(v:Int) },(bn v).length):=by
 cases hd:bn v with
 | nil=>exact absurd hd (uD v)
 | cons x l =>
   have aX:=rH v;rw[hd]at aX;have hx:=aX x (by simp);rw[dE,rX,ag hx, ← dE];unfold lJ;rw[wF isNum (x :: l) b aX hb];have hval:dG (x :: l)=v:=by rw[← hd];exact Jh v
   rw[hval]
   have hno:¬ ((1<(x :: l).length∧(x :: l++b).head? = some 48)∨9223372036854775807<(v:Int)):=by
    rintro(⟨h1,h2⟩|h)
    · by_cases h10:v<10
      · rw[pR v h10]at hd
        injection hd with _ hl;rw[← hl]at h1;simp at h1
      · have:=aas (v+1) v (by omega) (by omega)
        rw[hd]at this;exact this h2
    · omega
   rw[af hno]
def rQ(o:Nat):List Int:=[[61],[60,62],[60],[60,61],[62],[62,61],[38],[43],[45],[42],[47]].getD o []
def iC(s:ByteArray)(t:ah):Prop:=t.kind=5∧t.text=s
theorem iC.sign (h:iC s t)(u:ByteArray)(ts:List ah):ay u (t :: ts)=decide (s=u):=by
 unfold ay;simp only[h.1,h.2,decide_true,gV]
inductive pI:List ah→Nd→Prop
 | num (t:ah)(h:t.kind=1):pI [t] { Nd.zero with kind:=1,num:=t.num }
 | text (t:ah)(h:t.kind=2):pI [t] { Nd.zero with kind:=2,text:=t.text }
 | yes (t:ah)(h:t.kind=3)(g:t.text=⟨#[84,82,85,69]⟩):pI [t] { Nd.zero with kind:=3,num:=1 }
 | no (t:ah)(h:t.kind=3)(g:t.text=⟨#[70,65,76,83,69]⟩):pI [t] { Nd.zero with kind:=3 }
 | dead (t:ah)(h:t.kind=6):pI [t] { Nd.zero with kind:=4 }
 | ref (t:ah)(h:t.kind=4):pI [t] { Nd.zero with kind:=5,ref:=t.dS }
 | range (t c u:ah)(h:t.kind=4)(hc:iC ⟨#[58]⟩ c)(g:u.kind=4)(hs:fI t.dS u.dS=true):pI [t,c,u] { Nd.zero with kind:=6,ref:=t.dS,ai:=u.dS }
def Wr (n rk d:Nat)(ts:List ah)(d':Nat)(ts':List ah):Prop :=
 (n≤rk∧ts'=ts∧d'=d)∨(rk<n∧d'=d+1∧∃l r,iC ⟨#[40]⟩ l∧iC ⟨#[41]⟩ r∧ts'=l :: (ts++[r]))
inductive Sh:Bool→Nat→List Nd→List Int→List ah→Nat→Nat→Prop
 | leaf (base:Nat)(ts:List ah)(nd:Nd)(h:pI ts nd):Sh false base [nd] [(base:Int)] ts 5 0
 | neg (base:Nat)(ns:List Nd)(a:Int)(ts:List ah)(rk d:Nat)(h:Sh false base ns [a] ts rk d)(m:ah)(hm:iC ⟨#[45]⟩ m)(d':Nat)(ts':List ah)(hw:Wr 4 rk d ts d' ts') :
    Sh false base (ns++[{ Nd.zero with kind:=8,kids:=[a] }]) [((base+ns.length:Nat):Int)] (m :: ts') 4 (d'+1)
 | op (base o:Nat)(ho:o<11)(ns ms:List Nd)(a b:Int)(ts us:List ah)(qd mO d1 d2:Nat)(h:Sh false base ns [a] ts qd d1)(g:Sh false (base+ns.length) ms [b] us mO d2)
    (s:ah) (hs:iC (j3.getD o ⟨#[]⟩) s) (e1 e2:Nat) (ts' lg:List ah) (hw:Wr (rk o) qd d1 ts e1 ts') (gw:Wr (rk o+1) mO d2 us e2 lg) :
    Sh false base (ns++(ms++[{ Nd.zero with kind:=9+(o:Int),kids:=[a,b] }])) [((base+(ns.length+ms.length):Nat):Int)] (ts'++s :: lg) (rk o) (max e1 e2)
 | call (base:Nat)(ns:List Nd)(ks:List Int)(ts:List ah)(d:Nat)(h:Sh true base ns ks ts 0 d)(t l r:ah)(ht:t.kind=3)(h1:t.text≠⟨#[84,82,85,69]⟩)(h2:t.text≠⟨#[70,65,76,83,69]⟩)(hl:iC ⟨#[40]⟩ l)(hr:iC ⟨#[41]⟩ r) :
    Sh false base (ns++[{ Nd.zero with kind:=7,text:=t.text,kids:=ks }]) [((base+ns.length:Nat):Int)] (t :: l :: (ts++[r])) 5 (d+1)
 | none (base:Nat):Sh true base [] [] [] 0 0
 | one (base:Nat)(ns:List Nd)(a:Int)(ts:List ah)(rk d:Nat)(h:Sh false base ns [a] ts rk d):Sh true base ns [a] ts 0 d
 | and (base:Nat)(ns ms:List Nd)(ks:List Int)(b:Int)(ts us:List ah)(rk d1 d2:Nat)(h:Sh true base ns ks ts 0 d1)(hk:ks≠[])(c:ah)(hc:iC ⟨#[44]⟩ c)(g:Sh false (base+ns.length) ms [b] us rk d2) :
    Sh true base (ns++ms) (ks++[b]) (ts++c :: us) 0 (max d1 d2)
def At (n deep base:Nat)(ts:List ah)(ns:List Nd)(a:Nat)(r:List ah):Prop :=
 if n≤4 then ∃f,eZ f n deep base ts=some (.ok (ns,a,r))else ∃f,jF f deep base ts=some (.ok (ns,a,r))
def Goes (n deep base:Nat)(ts:List ah)(ns:List Nd)(a:Nat)(r:List ah):Prop :=
 ∃wz a1 r1,At (n+1) deep base ts wz a1 r1∧∀f y,iK f n deep base ns a r=some y→∃g,iK g n deep base wz a1 r1=some y
theorem ahr (h:fH n r=0):iK 1 n deep base ns a r=some (.ok (ns,a,r)):=by
 rw[qL,ag h]
theorem Goes.at (hn:n≤3)(h:Goes n deep base ts ns a r)(hs:Stop n r):At n deep base ts ns a r:=by
 obtain⟨wz,a1,r1,h1,h2⟩:=h;obtain⟨g,hg⟩:=h2 1 _ (ahr (hs n (aj _) hn));unfold At at h1 ⊢;rw[ag (by omega)]at h1 ⊢;obtain⟨f,hf⟩:=h1;refine⟨max f g+1, ?_⟩;rw[lW,ag hn,wY (Nat.le_max_left f g) hf];exact Fj (Nat.le_max_right f g) hg
theorem At.goes(h:At (n+1) deep base ts ns a r):Goes n deep base ts ns a r:=⟨ns,a,r,h,fun f _ hy=>⟨f,hy⟩⟩
theorem At.four (h:At 5 deep base ts ns a r)(hm:ay ⟨#[45]⟩ ts=false):At 4 deep base ts ns a r:=by
 unfold At at h ⊢;rw[af (by omega)]at h;rw[ag (by omega)];obtain⟨f,hf⟩:=h;refine⟨f+1, ?_⟩;rw[lW,af (by omega),hm,af (by simp)];exact hf
theorem At.down (n:Nat):∀(k:Nat),n+k≤5→At (n+k) deep base ts ns a r→Stop n r→(n+k=5→ay ⟨#[45]⟩ ts=false)→At n deep base ts ns a r
 | 0,_,h,_,_=>h
 | k + 1,hk,h,hs,hm=>by
   have h1:At (n+k) deep base ts ns a r:=by
    by_cases c:n+(k+1)=5
    · rw[c]at h
      have:=h.four (hm c);rwa[show n+k=4 by omega]
    · exact Goes.at (by omega) (At.goes h) (fun m h1 h2=>hs m (by omega) h2)
   exact At.down n k (by omega) h1 hs (fun h=>by omega)
structure mr (base:Nat)(ns:List Nd)(a:Nat)(ts:List ah)(rk d:Nat):Prop where
 le:rk≤5
 close:∀rest,ay ⟨#[41]⟩ (ts++rest)=false
 minus:rk=5→∀rest,ay ⟨#[45]⟩ (ts++rest)=false
 high:∀deep rest,deep+d≤12→ay ⟨#[58]⟩ rest=false→4≤rk→At rk deep base (ts++rest) ns a rest
 low:∀deep rest,deep+d≤12→ay ⟨#[58]⟩ rest=false→rk≤3→Stop (rk+1) rest→Goes rk deep base (ts++rest) ns a rest
theorem Stop.more{m:Nat}(h:Stop n r)(hm:n≤m):Stop m r:=fun k h1 h2=>h k (by omega) h2
theorem mr.at {rk:Nat}(h:mr base ns a ts rk d)(n deep:Nat)(rest:List ah)(hn:n≤rk)(hd:deep+d≤12)(hc:ay ⟨#[58]⟩ rest=false)(hs:Stop n rest) :
 At n deep base (ts++rest) ns a rest:=by
 have hle:=h.le
 have h1:At rk deep base (ts++rest) ns a rest:=by
  by_cases c:4≤rk
  · exact h.high deep rest hd hc c
  · exact Goes.at (by omega) (h.low deep rest hd hc (by omega) (hs.more (by omega))) (hs.more hn)
 refine At.down n (rk - n) (by omega) ?_ hs (fun e=>h.minus (by omega) rest);rwa[show n+(rk - n)=rk by omega]
theorem Dm (h:iC s t)(ts:List ah)(hs:(List.range 4).all (fun n=>(gp n).all fun p=>decide (s≠p.1))=true)(n:Nat):Stop n (t :: ts):=by
 intro m _ hm;unfold fH
 have hf:(gp m).find? (fun p=>ay p.1 (t :: ts))=none:=by
  rw[List.find?_eq_none];intro p hp;rw[h.sign p.1 ts];have:=List.all_eq_true.1 hs m (by simp;omega);have:=List.all_eq_true.1 this p hp
  simpa using this
 rw[hf]
theorem mr.brk {rk:Nat}(h:mr base ns a ts rk d){l r:ah}(hl:iC ⟨#[40]⟩ l)(hr:iC ⟨#[41]⟩ r):mr base ns a (l :: (ts++[r])) 5 (d+1):=by
 refine⟨aj _,fun rest => ?_,fun _ rest => ?_,fun deep rest hd hc _ => ?_,fun deep rest _ _ h=>by omega⟩
 · rw[dE,hl.sign];decide
 · rw[dE,hl.sign];decide
 · have h1:=h.at 0 (deep+1) (r :: rest) (by omega) (by omega) (by rw[hr.sign];decide) (Dm hr rest (by decide) 0)
   unfold At at h1 ⊢;rw[ag (by omega)]at h1;rw[af (by omega)];obtain⟨f,hf⟩:=h1;refine⟨f+1, ?_⟩;rw[dE,l7,hl.sign,ag (by decide),af (by omega),bQ,qj,hf];show(if ay ⟨#[41]⟩ (r :: rest)=true then _ else _)=_;rw[hr.sign,ag (by decide)];rfl
theorem mr.wr {rk:Nat}(h:mr base ns a ts rk d)(hw:Wr n rk d ts d' ts')(hn:n≤5):∃oJ,n≤oJ∧mr base ns a ts' oJ d':=by
 rcases hw with ⟨h1,rfl,rfl⟩|⟨h1,rfl,l,r,hl,hr,rfl⟩
 · exact⟨rk,h1,h⟩
 · exact⟨5,hn,h.brk hl hr⟩
theorem mr.goes {rk:Nat}(h:mr base ns a ts rk d)(n deep:Nat)(rest:List ah)(hn:n≤rk)(GR:n≤3)(hd:deep+d≤12)(hc:ay ⟨#[58]⟩ rest=false)(hs:Stop (n+1) rest) :
 Goes n deep base (ts++rest) ns a rest:=by
 by_cases c:n=rk
 · subst c;exact h.low deep rest hd hc GR hs
 · exact(h.at (n+1) deep rest (by omega) hd hc hs).goes
theorem Qa (h:pI ts nd):mr base [nd] base ts 5 0:=by
 have key:(∀rest,ay ⟨#[41]⟩ (ts++rest)=false)∧(∀rest,ay ⟨#[45]⟩ (ts++rest)=false)∧∀deep rest,ay ⟨#[58]⟩ rest=false→jF 1 deep base (ts++rest)=some (.ok ([nd],base,rest)):=by
  have hs:∀(t:ah)(s:ByteArray)(us:List ah),t.kind≠5→ay s (t :: us)=false:=by
   intro t s us ht;unfold ay;simp only[aV ht,Bool.false_and]
  cases h with
  | num t h =>
    refine⟨fun rest=>hs _ _ _ (by omega),fun rest=>hs _ _ _ (by omega),fun deep rest hc => ?_⟩;rw[qj,l7,hs _ _ _ (by omega),af (by simp),ag h]
  | text t h =>
    refine⟨fun rest=>hs _ _ _ (by omega),fun rest=>hs _ _ _ (by omega),fun deep rest hc => ?_⟩;rw[qj,l7,hs _ _ _ (by omega),af (by simp),af (by omega),ag h]
  | yes t h g =>
    refine⟨fun rest=>hs _ _ _ (by omega),fun rest=>hs _ _ _ (by omega),fun deep rest hc => ?_⟩;rw[qj,l7,hs _ _ _ (by omega),af (by simp),af (by omega),af (by omega),af (by omega),af (by omega),ag h,ag g]
  | no t h g =>
    refine⟨fun rest=>hs _ _ _ (by omega),fun rest=>hs _ _ _ (by omega),fun deep rest hc => ?_⟩;rw[qj,l7,hs _ _ _ (by omega),af (by simp),af (by omega),af (by omega),af (by omega),af (by omega),ag h,af (by rw[g];decide),ag g]
  | dead t h =>
    refine⟨fun rest=>hs _ _ _ (by omega),fun rest=>hs _ _ _ (by omega),fun deep rest hc => ?_⟩;rw[qj,l7,hs _ _ _ (by omega),af (by simp),af (by omega),af (by omega),ag h]
  | ref t h =>
    refine⟨fun rest=>hs _ _ _ (by omega),fun rest=>hs _ _ _ (by omega),fun deep rest hc => ?_⟩;rw[qj,l7,hs _ _ _ (by omega),af (by simp),af (by omega),af (by omega),af (by omega),ag h];unfold jM;rw[hc,af (by simp)]
  | range t c u h hc g hsp =>
    refine⟨fun rest=>hs _ _ _ (by omega),fun rest=>hs _ _ _ (by omega),fun deep rest _ => ?_⟩;show jF 1 deep base (t :: c :: u :: rest)=_;rw[l7,hs _ _ _ (by omega),af (by simp),af (by omega),af (by omega),af (by omega),ag h];unfold jM;rw[hc.sign,ag (by decide)];show some (if u.kind=4∧fI t.dS u.dS=true then _ else _)=_;rw[ag ⟨g,hsp⟩]
 refine⟨aj _,key.1,fun _=>key.2.1,fun deep rest _ hc _ => ?_,fun deep rest _ _ h=>by omega⟩;unfold At;rw[af (by omega)];exact⟨1,key.2.2 deep rest hc⟩
theorem WC(r:List ah):Stop 4 r:=fun m h1 h2=>by omega
theorem Qb {rk:Nat}(h:mr base ns a ts rk d){m:ah}(hm:iC ⟨#[45]⟩ m)(h4:4≤rk) :
 mr base (ns++[{ Nd.zero with kind:=8,kids:=[(a:Int)] }]) (base+ns.length) (m :: ts) 4 (d+1):=by
 refine⟨by omega,fun rest=>by rw[dE,hm.sign];decide,fun h=>by omega,fun deep rest hd hc _ => ?_,fun deep rest _ _ h=>by omega⟩;have h1:=h.at 4 (deep+1) rest h4 (by omega) hc (WC _);unfold At at h1 ⊢;rw[ag (by omega)]at h1 ⊢;obtain⟨f,hf⟩:=h1;refine⟨f+1, ?_⟩;rw[dE,lW,af (by omega),hm.sign,ag (by decide),af (by omega),List.tail_cons,hf];rfl
theorem UD:∀o:Nat,o<11→j3.getD o ⟨#[]⟩≠⟨#[58]⟩:=by decide +kernel
theorem NV {o:Nat}(ho:o<11){s:ah}(hs:iC (j3.getD o ⟨#[]⟩) s)(ts:List ah):Stop (rk o+1) (s :: ts):=by
 intro m h1 h2;rw[MZ s ts o ho hs.1 hs.2 m h2,af (by omega)]
theorem Qd {o:Nat}(ho:o<11){b:Nat}{us:List ah}{qd mO d1 d2:Nat}(h:mr base ns a ts qd d1)(g:mr (base+ns.length) ms b us mO d2){s:ah}(hs:iC (j3.getD o ⟨#[]⟩) s)
 (h1:rk o≤qd) (h2:rk o+1≤mO) :
 mr base (ns++(ms++[{ Nd.zero with kind:=9+(o:Int),kids:=[(a:Int),(b:Int)] }])) (base+(ns.length+ms.length)) (ts++s :: us) (rk o) (max d1 d2):=by
 have hr:=NB o;refine⟨by omega,fun rest=>by rw[bQ];exact h.close _,fun e=>by omega,fun deep rest _ _ e=>by omega,fun deep rest hd hc _ hst => ?_⟩;obtain⟨wz,a1,r1,k1,k2⟩:=h.goes (rk o) deep (s :: (us++rest)) h1 hr (by omega) (by rw[hs.sign];exact aV (UD o ho)) (NV ho hs _);have k3:=g.at (rk o+1) deep rest h2 (by omega) hc hst;unfold At at k3;rw[ag (by omega)]at k3;obtain⟨f,hf⟩:=k3;refine⟨wz,a1,r1,by rw[bQ];exact k1,fun f' y hy => ?_⟩;refine k2 (max f f'+1) y ?_;rw[qL,MZ s _ o ho hs.1 hs.2 _ hr,ag rfl,af (by omega),List.tail_cons,wY (Nat.le_max_left f f') hf];exact Fj (Nat.le_max_right f f') hy
def BV (base:Nat)(ns:List Nd)(ks:List Int)(ts:List ah)(d:Nat):Prop :=
 (ks=[]∧ns=[]∧ts=[]∧d=0)∨(ks≠[]∧(∀rest,ay ⟨#[41]⟩ (ts++rest)=false)∧∀deep rest,deep+d≤12→ay ⟨#[58]⟩ rest=false→Stop 0 rest →
   ∀f y,(if ay ⟨#[44]⟩ rest=true then iq f deep base ns ks rest.tail else some (.ok (ns,ks,rest)))=some y→∃g,iq g deep base [] [] (ts++rest)=some y)
theorem Qc {rk:Nat}(h:mr base ns a ts rk d):BV base ns [(a:Int)] ts d:=by
 refine .inr ⟨by simp,h.close,fun deep rest hd hc hs f y hy => ?_⟩;have h1:=h.at 0 deep rest (by omega) hd hc hs;unfold At at h1;rw[ag (by omega)]at h1;obtain⟨g,hg⟩:=h1;refine⟨max f g+1, ?_⟩;rw[pO,dX,Nat.add_zero,wY (Nat.le_max_right f g) hg];show(if ay ⟨#[44]⟩ rest=true then iq (max f g) deep base ns [(a:Int)] rest.tail else some (.ok (ns,[(a:Int)],rest)))=some y;by_cases c:ay ⟨#[44]⟩ rest=true
 · rw[ag c]at hy ⊢;exact Gt (Nat.le_max_left f g) hy
 · rw[af c]at hy ⊢;exact hy
theorem P8 {b:Nat}{us:List ah}{rk d1 d2:Nat}(h:BV base ns ks ts d1)(hk:ks≠[]){c:ah}(hc:iC ⟨#[44]⟩ c)(g:mr (base+ns.length) ms b us rk d2) :
 BV base (ns++ms) (ks++[(b:Int)]) (ts++c :: us) (max d1 d2):=by
 rcases h with ⟨h,_⟩|⟨_,h1,h2⟩
 · exact absurd h hk
 · refine .inr ⟨by simp,fun rest=>by rw[bQ];exact h1 _,fun deep rest hd zy hs f y hy => ?_⟩
   have k1:=g.at 0 deep rest (by omega) (by omega) zy hs;unfold At at k1;rw[ag (by omega)]at k1;obtain⟨g',hg⟩:=k1
   obtain ⟨q,hq⟩:=h2 deep (c :: (us++rest)) (by omega) (by rw[hc.sign];decide) (Dm hc _ (by decide) 0) (max f g'+1) y (by
    rw[hc.sign,ag (by decide),List.tail_cons,pO,wY (Nat.le_max_right f g') hg];show(if ay ⟨#[44]⟩ rest=true then iq (max f g') deep base (ns++ms) (ks++[(b:Int)]) rest.tail else some (.ok (ns++ms,ks++[(b:Int)],rest)))=some y;by_cases e:ay ⟨#[44]⟩ rest=true
    · rw[ag e]at hy ⊢;exact Gt (Nat.le_max_left f g') hy
    · rw[af e]at hy ⊢;exact hy)
   exact⟨q,by rw[bQ];exact hq⟩
theorem P9 (h:BV base ns ks ts d){l r:ah}(ht:t.kind=3)(h1:t.text≠⟨#[84,82,85,69]⟩)(h2:t.text≠⟨#[70,65,76,83,69]⟩)(hl:iC ⟨#[40]⟩ l)(hr:iC ⟨#[41]⟩ r) :
 mr base (ns++[{ Nd.zero with kind:=7,text:=t.text,kids:=ks }]) (base+ns.length) (t :: l :: (ts++[r])) 5 (d+1):=by
 have hs:∀(s:ByteArray)(us:List ah),ay s (t :: us)=false:=by
  intro s us;unfold ay;simp only[ht];rfl
 refine⟨aj _,fun rest=>hs _ _,fun _ rest=>hs _ _,fun deep rest hd hc _ => ?_,fun deep rest _ _ h=>by omega⟩
 have key:∃f,(if ay ⟨#[41]⟩ (ts++r :: rest)=true then some (.ok ([],[],ts++r :: rest))else iq f (deep+1) base [] [] (ts++r :: rest))=some (.ok (ns,ks,r :: rest)):=by
  rcases h with ⟨rfl,rfl,rfl,_⟩|⟨_,g1,g2⟩
  · refine⟨0, ?_⟩
    rw[gX,hr.sign,ag (by decide)]
  · obtain⟨f,hf⟩:=g2 (deep+1) (r :: rest) (by omega) (by rw[hr.sign];decide) (Dm hr rest (by decide) 0) 0 (.ok (ns,ks,r :: rest)) (by rw[hr.sign,af (by decide)])
    refine⟨f, ?_⟩;rw[g1,af (by simp)];exact hf
 obtain⟨f,hf⟩:=key;unfold At;rw[af (by omega)];refine⟨f+1, ?_⟩;rw[dE,dE,bQ,qj,l7,hs,af (by simp),af (by omega),af (by omega),af (by omega),af (by omega),ag ht,af h1,af h2,hl.sign,ag (by decide),af (by omega),List.tail_cons,hf];show(if ay ⟨#[41]⟩ (r :: rest)=true then _ else _)=_;rw[hr.sign,ag (by decide)];rfl
theorem ah6 {rk:Nat}(h:Sh b base ns ks ts rk d) :
 (b=false→∃a:Nat,ks=[(a:Int)]∧mr base ns a ts rk d)∧(b=true→BV base ns ks ts d):=by
 induction h with
 | leaf base ts nd h=>exact⟨fun _=>⟨base,rfl,Qa h⟩,fun h=>by cases h⟩
 | neg base ns a ts rk d h m hm d' ts' hw ih =>
   refine⟨fun _ => ?_,fun h=>by cases h⟩;obtain⟨a',e,hb⟩:=ih.1 rfl;obtain rfl:a=(a':Int):=by simpa using e
   obtain⟨oJ,h1,hb'⟩:=hb.wr hw (by omega);exact⟨_,rfl,Qb hb' hm h1⟩
 | op base o ho ns ms a b ts us qd mO d1 d2 h g s hs e1 e2 ts' lg hw gw ih ky =>
   refine⟨fun _ => ?_,fun h=>by cases h⟩;have hr:=NB o;obtain⟨a',e,hb⟩:=ih.1 rfl;obtain rfl:a=(a':Int):=by simpa using e
   obtain⟨b',e',gb⟩:=ky.1 rfl;obtain rfl:b=(b':Int):=by simpa using e'
   obtain⟨r1,h1,hb'⟩:=hb.wr hw (by omega);obtain⟨r2,h2,GI⟩:=gb.wr gw (by omega);exact⟨_,rfl,Qd ho hb' GI hs h1 h2⟩
 | call base ns ks ts d h t l r ht h1 h2 hl hr ih=>exact⟨fun _=>⟨_,rfl,P9 (ih.2 rfl) ht h1 h2 hl hr⟩,fun h=>by cases h⟩
 | none base=>exact⟨fun h=>(by cases h),fun _ => .inl ⟨rfl,rfl,rfl,rfl⟩⟩
 | one base ns a ts rk d h ih =>
   refine⟨fun h=>(by cases h),fun _ => ?_⟩;obtain⟨a',e,hb⟩:=ih.1 rfl;obtain rfl:a=(a':Int):=by simpa using e
   exact Qc hb
 | and base ns ms ks b ts us rk d1 d2 h hk c hc g ih ky =>
   refine⟨fun h=>(by cases h),fun _ => ?_⟩;obtain⟨b',e,gb⟩:=ky.1 rfl;obtain rfl:b=(b':Int):=by simpa using e
   exact P8 (ih.2 rfl) hk hc gb
theorem aid {a:Int}{rk:Nat}(h:Sh false 0 ns [a] ts rk d)(hd:d≤12)(e:ah)(he:e.kind=0):∃f,j4 f (ts++[e])=some (.ok ns):=by
 obtain⟨a',_,hb⟩:=(ah6 h).1 rfl;have hsg:∀s:ByteArray,ay s [e]=false:=by intro s;unfold ay;simp only[he];rfl
 have h1:=hb.at 0 0 [e] (by omega) (by omega) (hsg _) (by
  intro m _ _;unfold fH
  have hf:(gp m).find? (fun p=>ay p.1 [e])=none:=by
   rw[List.find?_eq_none];intro p _;rw[hsg];simp
  rw[hf])
 unfold At at h1;rw[ag (by omega)]at h1;obtain⟨f,hf⟩:=h1;refine⟨f, ?_⟩;unfold j4;rw[hf];show(if uN [e]=0 then _ else _)=_;rw[ag (show uN [e]=0 from he)]
theorem zV (h:ay s ts=true):∃t,ts=t :: ts.tail∧iC s t:=by
 cases ts with
 | nil=>simp[ay]at h
 | cons t ts =>
   unfold ay at h;rw[dJ,aQ,aQ]at h;exact⟨t,rfl,h⟩
theorem afz (hn:n≤3)(h:fH n ts≠0):∃o t,o<11∧rk o=n∧ts=t :: ts.tail∧iC (j3.getD o ⟨#[]⟩) t∧fH n ts=9+(o:Int):=by
 obtain⟨p,h1,h2,h3⟩:=EX h;obtain⟨t,e,ht⟩:=zV h2;have key:∀n:Nat,n<4→(gp n).all (fun p=>(List.range 11).any fun o=>decide (rk o=n)&&(decide (p.1=j3.getD o ⟨#[]⟩)&&decide (p.2=9+(o:Int))))=true:=by decide +kernel
 have:=List.all_eq_true.1 (key n (by omega)) p h1;rw[List.any_eq_true]at this;obtain⟨o,ho,hq⟩:=this;rw[dJ,dJ,aQ,aQ,aQ]at hq;refine⟨o,t,by simpa using ho,hq.1,e, ?_,by rw[h3,hq.2.2]⟩;rw[← hq.2.1];exact ht
def Has (n deep base:Nat)(ns:List Nd)(a:Nat)(pre:List ah):Prop :=
 ∃ts rk d ts' d',Sh false base ns [(a:Int)] ts rk d∧Wr n rk d ts d' ts'∧ts'.Sublist pre∧deep+d'≤12
theorem Has.less {pre:List ah}(h:Has (n+1) deep base ns a pre):Has n deep base ns a pre:=by
 obtain⟨ts,rk,d,ts',d',h1,h2,h3,h4⟩:=h;rcases h2 with ⟨g1,rfl,rfl⟩|⟨g1,rfl,l,r,hl,hr,rfl⟩
 · exact⟨_,_,_,_,_,h1,.inl ⟨by omega,rfl,rfl⟩,h3,h4⟩
 · by_cases c:n≤rk
   · refine⟨_,_,_,_,_,h1,.inl ⟨c,rfl,rfl⟩, ?_,by omega⟩
     exact((List.sublist_append_left ts [r]).trans (List.sublist_cons_self l _)).trans h3
   · exact⟨_,_,_,_,_,h1,.inr ⟨by omega,rfl,l,r,hl,hr,rfl⟩,h3,h4⟩
def YX (deep base:Nat)(ns:List Nd)(ks:List Int)(pre:List ah):Prop :=
 (ks=[]∧ns=[])∨(ks≠[]∧∃ts d c,Sh true base ns ks ts 0 d∧iC ⟨#[44]⟩ c∧(ts++[c]).Sublist pre∧deep+d≤12)
theorem AX {pre:List ah}(h:pI ts nd)(hp:ts.Sublist pre)(hd:deep≤12):Has 5 deep base [nd] base pre :=
 ⟨_,_,_,_,_,.leaf base ts nd h,.inl ⟨aj _,rfl,rfl⟩,hp,by omega⟩
theorem Rw : ∀ f : Nat, (∀ n deep base ts ns a r, eZ f n deep base ts=some (.ok (ns,a,r))→n≤4→deep≤12→∃pre,ts=pre++r∧Has n deep base ns a pre) ∧
 (∀n deep base ns a ts ns' a' r rU,iK f n deep base ns a ts=some (.ok (ns',a',r))→n≤3→deep≤12→Has n deep base ns a rU→∃pre,ts=pre++r∧Has n deep base ns' a' (rU++pre)) ∧
 (∀deep base ts ns a r,jF f deep base ts=some (.ok (ns,a,r))→deep≤12→∃pre,ts=pre++r∧Has 5 deep base ns a pre) ∧
 (∀ deep base ns ks ts ns' ks' r rU,iq f deep base ns ks ts=some (.ok (ns',ks',r))→deep≤12→YX deep base ns ks rU →
   ∃pre us d,ts=pre++r∧Sh true base ns' ks' us 0 d∧us.Sublist (rU++pre)∧deep+d≤12)
 | 0=>by
   refine⟨?_, ?_, ?_, ?_⟩
   · intro n deep base ts ns a r h;unfold eZ at h;cases h
   · intro n deep base ns a ts ns' a' r rU h;unfold iK at h;cases h
   · intro deep base ts ns a r h;unfold jF at h;cases h
   · intro deep base ns ks ts ns' ks' r rU h;unfold iq at h;cases h
 | f + 1 => by
   obtain⟨i1,i2,i3,i4⟩:=Rw f;refine⟨?_, ?_, ?_, ?_⟩
   · intro n deep base ts ns a r h hn hd
     rw[lW]at h;by_cases c:n≤3
     · rw [ag c]at h
       rcases eO h with ⟨e,_,h2⟩|⟨ms,b,s,h1,h2⟩
       · cases h2
       · obtain⟨p1,e1,k1⟩:=i1 _ _ _ _ _ _ _ h1 (by omega) hd
         obtain⟨p2,e2,k2⟩:=i2 _ _ _ _ _ _ _ _ _ p1 h2 c hd k1.less;exact⟨p1++p2,by rw[e1,e2,bQ],k2⟩
     · rw [af c]at h
       have vW:n=4:=by omega
       subst vW;by_cases d:ay ⟨#[45]⟩ ts=true
       · rw [ag d]at h
         by_cases d2:12≤deep
         · rw[ag d2]at h;cases h
         · rw [af d2]at h
           obtain⟨t,et,ht⟩:=zV d;rcases eO h with ⟨e,_,h2⟩|⟨ms,b,s,h1,h2⟩
           · cases h2
           · obtain⟨p1,e1,us,oJ,d',lg,e',g1,g2,g3,g4⟩:=i1 _ _ _ _ _ _ _ h1 (by omega) (by omega)
             injection h2 with h2;injection h2 with h2;injection h2 with h3 h4;injection h4 with h4 h5;subst h3;subst h4;subst h5;refine⟨t :: p1,by rw[et,e1];rfl,_,_,_,_,_,.neg base ms _ us oJ d' g1 t ht e' lg g2,.inl ⟨aj _,rfl,rfl⟩,g3.cons_cons t,by omega⟩
       · rw[af d]at h
         obtain⟨p,e,k⟩:=i3 _ _ _ _ _ _ h hd;exact⟨p,e,Has.less (n:=4) k⟩
   · intro n deep base ns a ts ns' a' r rU h hn hd hh
     rw[qL]at h;by_cases c:fH n ts=0
     · rw[ag c]at h
       injection h with h;injection h with h;injection h with h1 h2;injection h2 with h2 h3;subst h1;subst h2;subst h3;exact⟨[],rfl,by rw[gL];exact hh⟩
     · rw [af c]at h
       obtain⟨o,t,ho,uH,et,ht,aaC⟩:=afz hn c;rcases eO h with ⟨e,_,h2⟩|⟨ms,b,s,h1,h2⟩
       · cases h2
       · obtain ⟨p1,e1,us,mO,d2,lg,e2,g1,g2,g3,g4⟩:=i1 _ _ _ _ _ _ _ h1 (by omega) hd
         obtain⟨ls,qd,d1,ls',l2,k1,k2,k3,k4⟩:=hh;subst uH
         have GU:Has (rk o) deep base (ns++(ms++[{ Nd.zero with kind:=9+(o:Int),kids:=[(a:Int),(b:Int)] }])) (base+(ns.length+ms.length)) (rU++t :: p1) :=
          ⟨_,_,_,_,_,.op base o ho ns ms _ _ ls us qd mO d1 d2 k1 g1 t ht l2 e2 ls' lg k2 g2,.inl ⟨aj _,rfl,rfl⟩,k3.append (g3.cons_cons t),by omega⟩
         rw[aaC]at h2;obtain⟨p2,e3,k5⟩:=i2 _ _ _ _ _ _ _ _ _ _ h2 hn hd GU;refine⟨t :: (p1++p2),by rw[et,e1,e3];simp, ?_⟩;have:rU++t :: (p1++p2)=rU++t :: p1++p2:=by simp
         rw[this];exact k5
   · intro deep base ts ns a r h hd
     cases ts with
     | nil=>rw[zN]at h;injection h with h;cases h
     | cons t ts =>
       rw[l7]at h;by_cases c1:ay ⟨#[40]⟩ (t :: ts)=true
       · rw [ag c1]at h
         obtain⟨t',et,ht⟩:=zV c1;injection et with et _;subst et;by_cases d:12≤deep
         · rw[ag d]at h;cases h
         · rw [af d]at h
           rcases eO h with ⟨e,_,h2⟩|⟨ms,b,s,h1,h2⟩
           · cases h2
           · by_cases c2 : ay ⟨#[41]⟩ s = true
             · rw [ag c2]at h2
               injection h2 with h2;injection h2 with h2;injection h2 with h3 h4;injection h4 with h4 h5;subst h3;subst h4;subst h5;obtain⟨u,La,hu⟩:=zV c2;obtain⟨p1,e1,us,oJ,d',lg,e',g1,g2,g3,g4⟩:=i1 _ _ _ _ _ _ _ h1 (by omega) (by omega);rcases g2 with ⟨_,rfl,rfl⟩|⟨g2,_⟩
               · refine ⟨t :: (p1 ++ [u]), by rw[e1];conv=>lhs;rw[La]
                                              simp, ?_⟩
                 by_cases c3:5≤oJ
                 · refine⟨_,_,_,_,_,g1,.inl ⟨c3,rfl,rfl⟩, ?_,by omega⟩
                   exact(g3.trans (List.sublist_append_left _ _)).trans (List.sublist_cons_self _ _)
                 · exact⟨_,_,_,_,_,g1,.inr ⟨by omega,rfl,t,u,ht,hu,rfl⟩,(g3.append (List.Sublist.refl [u])).cons_cons t,by omega⟩
               · omega
             · rw[af c2]at h2;injection h2 with h2;cases h2
       · rw [af c1] at h
         by_cases c2:t.kind=1
         · rw[ag c2]at h
           injection h with h;injection h with h;injection h with h1 h2;injection h2 with h2 h3;subst h1;subst h2;subst h3;exact⟨[t],rfl,AX (.num t c2) (List.Sublist.refl _) hd⟩
         · rw [af c2] at h
           by_cases c3:t.kind=2
           · rw[ag c3]at h
             injection h with h;injection h with h;injection h with h1 h2;injection h2 with h2 h3;subst h1;subst h2;subst h3;exact⟨[t],rfl,AX (.text t c3) (List.Sublist.refl _) hd⟩
           · rw [af c3] at h
             by_cases c4:t.kind=6
             · rw[ag c4]at h
               injection h with h;injection h with h;injection h with h1 h2;injection h2 with h2 h3;subst h1;subst h2;subst h3;exact⟨[t],rfl,AX (.dead t c4) (List.Sublist.refl _) hd⟩
             · rw [af c4] at h
               by_cases c5:t.kind=4
               · rw [ag c5]at h
                 injection h with h;unfold jM at h;by_cases c6:ay ⟨#[58]⟩ ts=true
                 · rw [ag c6]at h
                   obtain⟨q,eq,hq⟩:=zV c6;cases hu:ts.tail with
                   | nil=>rw[hu]at h;cases h
                   | cons u us =>
                     rw[hu]at h;simp only at h;by_cases c7:u.kind=4∧fI t.dS u.dS=true
                     · rw[ag c7]at h
                       injection h with h;injection h with h1 h2;injection h2 with h2 h3;subst h1;subst h2;subst h3;refine⟨[t,q,u],by rw[eq,hu];rfl,AX (.range t q u c5 hq c7.1 c7.2) (List.Sublist.refl _) hd⟩
                     · rw[af c7]at h;cases h
                 · rw[af c6]at h
                   injection h with h;injection h with h1 h2;injection h2 with h2 h3;subst h1;subst h2;subst h3;exact⟨[t],rfl,AX (.ref t c5) (List.Sublist.refl _) hd⟩
               · rw [af c5] at h
                 by_cases c6:t.kind=3
                 · rw [ag c6] at h
                   by_cases c7:t.text=⟨#[84,82,85,69]⟩
                   · rw[ag c7]at h
                     injection h with h;injection h with h;injection h with h1 h2;injection h2 with h2 h3;subst h1;subst h2;subst h3;exact⟨[t],rfl,AX (.yes t c6 c7) (List.Sublist.refl _) hd⟩
                   · rw [af c7] at h
                     by_cases c8:t.text=⟨#[70,65,76,83,69]⟩
                     · rw[ag c8]at h
                       injection h with h;injection h with h;injection h with h1 h2;injection h2 with h2 h3;subst h1;subst h2;subst h3;exact⟨[t],rfl,AX (.no t c6 c8) (List.Sublist.refl _) hd⟩
                     · rw [af c8]at h
                       by_cases c9:ay ⟨#[40]⟩ ts=true
                       · rw [ag c9]at h
                         obtain⟨l,el,hl⟩:=zV c9;by_cases d:12≤deep
                         · rw[ag d]at h;cases h
                         · rw [af d]at h
                           rcases eO h with ⟨e,_,h2⟩|⟨ms,ks,s,h1,h2⟩
                           · cases h2
                           · by_cases c10 : ay ⟨#[41]⟩ s = true
                             · rw [ag c10]at h2
                               injection h2 with h2;injection h2 with h2;injection h2 with h3 h4;injection h4 with h4 h5;subst h3;subst h4;subst h5;obtain⟨u,La,hu⟩:=zV c10
                               have key:∃p us d,ts.tail=p++s∧Sh true base ms ks us 0 d∧us.Sublist p∧deep+1+d≤12:=by
                                by_cases c11:ay ⟨#[41]⟩ ts.tail=true
                                · rw[ag c11]at h1
                                  injection h1 with h1;injection h1 with h1;injection h1 with h3 h4;injection h4 with h4 h5;subst h3;subst h4;subst h5;exact⟨[],[],0,rfl,.none base,List.Sublist.refl _,by omega⟩
                                · rw[af c11]at h1
                                  obtain⟨p,us,d',g1,g2,g3,g4⟩:=i4 _ _ _ _ _ _ _ _ [] h1 (by omega) (.inl ⟨rfl,rfl⟩);exact⟨p,us,d',g1,g2,by simpa using g3,g4⟩
                               obtain⟨p,us,d',g1,g2,g3,g4⟩:=key
                               refine ⟨t :: l :: (p ++ [u]), by rw[el,g1];conv=>lhs;rw[La]
                                                                simp, ?_⟩
                               exact⟨_,_,_,_,_,.call base ms ks us d' g2 t l u c6 c7 c8 hl hu,.inl ⟨aj _,rfl,rfl⟩,((g3.append (List.Sublist.refl [u])).cons_cons l).cons_cons t,by omega⟩
                             · rw[af c10]at h2;injection h2 with h2;cases h2
                       · rw[af c9]at h;injection h with h;cases h
                 · rw[af c6]at h;injection h with h;cases h
   · intro deep base ns ks ts ns' ks' r rU h hd hh
     rw[pO]at h;rcases eO h with ⟨e,_,h2⟩|⟨ms,b,s,h1,h2⟩
     · cases h2
     · obtain ⟨p1, e1, us, oJ, d', lg, e', g1,g2,g3,g4⟩:=i1 _ _ _ _ _ _ _ h1 (by omega) hd
       rcases g2 with ⟨_,rfl,rfl⟩|⟨g2,_⟩
       · have key : ∃ ts d, Sh true base (ns ++ ms) (ks++[(b:Int)]) ts 0 d∧ts.Sublist (rU++p1)∧deep+d≤12:=by
          rcases hh with ⟨rfl,rfl⟩|⟨hk,us0,d0,q,k1,k2,k3,k4⟩
          · exact⟨_,_,.one base ms _ _ _ _ (by simpa using g1),g3.trans (List.sublist_append_right _ _),g4⟩
          · refine⟨_,_,.and base ns ms ks _ us0 _ _ d0 _ k1 hk q k2 g1, ?_,by omega⟩
            have:=k3.append g3
            simpa using this
         obtain⟨Xa,d1,j1,j2,Bo⟩:=key;by_cases c:ay ⟨#[44]⟩ s=true
         · rw[ag c]at h2
           obtain⟨q,eq,hq⟩:=zV c;obtain⟨p2,BQ,d2,m1,m2,m3,m4⟩:=i4 _ _ _ _ _ _ _ _ (rU++p1++[q]) h2 hd (.inr ⟨by simp,Xa,d1,q,j1,hq,j2.append (List.Sublist.refl _),Bo⟩)
           refine ⟨p1 ++ q :: p2, BQ, d2, by rw[e1];conv=>lhs;rw[eq,m1]
                                             simp,m2,by simpa using m3,m4⟩
         · rw[af c]at h2
           injection h2 with h2;injection h2 with h2;injection h2 with h3 h4;injection h4 with h4 h5;subst h3;subst h4;subst h5;exact⟨p1,Xa,d1,e1,j1,j2,Bo⟩
       · omega
def dU (t:ah):List Int :=
 if t.kind=1 then bn t.num.toNat
 else if t.kind=2 then 34 :: (fw (sb t.text)++[34])
 else if t.kind=4 then bE (sb t.sh) t.c t.r t.ac t.ar
 else if t.kind=6 then [35,82,69,70,33]
 else sb t.text
theorem Oa(p:Int→Bool)(l:List Int):l.take (l.takeWhile p).length=l.takeWhile p:=(List.prefix_iff_eq_take.1 (List.takeWhile_prefix p)).symm
theorem IC:∀(n:Nat)(l t:List Int)(k:Nat),l.length≤n→eU l=some (t,k)→l.take k=fw t++[34]
 | _,[],_,_,_,h=>by simp[eU]at h
 | 0,_ :: _,_,_,hn,_=>by simp at hn
 | n + 1, x :: l,t,k,hn,h=>by
   rw[uR]at h;by_cases h1:x<32
   · rw[ag h1]at h;cases h
   · rw [af h1]at h
     by_cases h2:x≠34
     · rw [ag h2]at h
       cases hq:eU l with
       | none=>rw[hq]at h;cases h
       | some q =>
         rw[hq]at h;simp only[jq,aZ,bH]at h;have g:=IC n l q.1 q.2 (by simp at hn;omega) hq;rw[← h.1, ← h.2,List.take_succ_cons,g];have e:fw (x :: q.1)=x :: fw q.1:=by unfold fw;rw[af h2];cases q.1 <;> rfl
         rw[e];rfl
     · rw [af h2]at h
       have hx:x=34:=by omega
       cases l with
       | nil=>simp only[aZ,bH]at h;rw[← h.1, ← h.2,hx];rfl
       | cons y m =>
         by_cases hy:y=34
         · simp only [hy,if_true]at h
           cases hq:eU m with
           | none=>rw[hq]at h;cases h
           | some q =>
             rw[hq]at h;simp only[jq,aZ,bH]at h;have g:=IC n m q.1 q.2 (by simp at hn;omega) hq;rw[← h.1, ← h.2,List.take_succ_cons,List.take_succ_cons,g,hx,hy];rfl
         · simp only[hy,if_false,aZ,bH]at h
           rw[← h.1, ← h.2,hx];rfl
theorem ajt (l:List Int)(t:ah)(n:Nat)(hb:Bytes l)(h:fJ l=some (t,n)):l.take n=dU t∧t.goto 0=t:=by
 cases l with
 | nil=>simp[fJ]at h
 | cons x l =>
   rw[rX]at h;by_cases h1:isNum x=true
   · rw [ag h1]at h
     unfold lJ at h;split at h
     · cases h
     · rename_i hn
       simp only[aZ,bH]at h;rw[← h.1, ← h.2,Oa];refine⟨?_,rfl⟩;have aX:=uW isNum (x :: l);have mJ:=Jb isNum x l h1;have GL:(x :: l).takeWhile isNum=x :: l.takeWhile isNum:=by rw[List.takeWhile_cons,ag h1]
       show(x :: l).takeWhile isNum=bn (dG ((x :: l).takeWhile isNum)).toNat;by_cases c:x=48
       · subst c
         have hl:((48 :: l).takeWhile isNum).length=1:=by
          apply Decidable.byContradiction;intro hc;exact hn (.inl ⟨by omega,rfl⟩)
         have:l.takeWhile isNum=[]:=by
          rw[GL,bf]at hl;exact kM (by omega)
         rw[GL,this];show [48]=bn 0;rw[pR 0 (by omega)];rfl
       · exact(KX _ _ rfl (by rw[GL];simp) aX (by rw[GL];simpa using c)).2.symm
   · rw [af h1]at h
     by_cases h2:x=34
     · rw [ag h2]at h
       unfold lK at h;cases hq:eU l with
       | none=>rw[hq]at h;cases h
       | some q =>
         rw[hq]at h;simp only[jq,aZ,bH]at h;obtain⟨g1,g2⟩:=C9 _ l q.1 q.2 (aj _) (fun y hy=>hb y (by simp[hy])) hq;rw[← h.1, ← h.2,List.take_succ_cons,IC _ l q.1 q.2 (aj _) hq,h2];refine⟨?_,rfl⟩;show _=34 :: (fw (sb (strOfNums q.1))++[34]);rw[jN _ g1]
     · rw [af h2]at h
       by_cases h3:x=35
       · rw [ag h3]at h
         unfold qC at h;split at h
         · rename_i h5
           simp only[aZ,bH]at h;rw[← h.1, ← h.2,h5];exact⟨rfl,rfl⟩
         · cases h
       · rw [af h3]at h
         by_cases h4:isLet x=true∨x=36
         · rw [ag h4]at h
           unfold nD at h;cases hq:iA (strOfNums ((x :: l).takeWhile isWord))with
           | some d =>
             rw[hq]at h;simp only[aZ,bH]at h;rw[← h.1, ← h.2,Oa];refine⟨?_,rfl⟩;have e:=(yH _ d hq).2.2;rw[jN _ (hb.span isWord)]at e;exact e.symm
           | none =>
             rw[hq]at h;simp only at h;by_cases hc:jL ((x :: l).takeWhile isWord)=true
             · rw[ag hc]at h
               simp only[aZ,bH]at h;rw[← h.1, ← h.2,Oa];exact⟨(jN _ (hb.span isWord)).symm,rfl⟩
             · rw[af hc]at h;cases h
         · rw [af h4]at h
           unfold o9 at h;split at h
           · cases h
           · simp only[aZ,bH]at h
             rw[← h.1, ← h.2];exact⟨(jN _ (fun y hy=>hb y (List.mem_of_mem_take hy))).symm,rfl⟩
def Tok(t:ah):Prop:=t.kind≠0∧fJ (dU t++[32])=some (t.goto 0,(dU t).length)∧Bytes (dU t)
theorem aju (l:List Int)(t:ah)(n p:Nat)(hb:Bytes l)(h:fJ l=some (t,n)):Tok (t.goto p)∧(dU (t.goto p)).length=n:=by
 obtain⟨h1,h2⟩:=ajt l t n hb h;have hn:=(rY _ _ _ h).2;have e:dU (t.goto p)=dU t:=rfl;have hl:(dU t).length=n:=by rw[← h1,gW];omega
 refine⟨⟨(WR l t n p hb h).2, ?_,by rw[e, ← h1];exact fun y hy=>hb y (List.mem_of_mem_take hy)⟩,by rw[e];exact hl⟩;have h3:fJ (dU t++l.drop n)=some (t,(dU t).length):=by rw[← h1,List.take_append_drop,h,h1,hl]
 have h4:=ajj (b':=[32]) (.inr rfl) h3;rw[e,h4];show some (t,_)=some (t.goto 0,_);rw[h2]
def Br:List ah→Nat
 | []=>0
 | t :: ts=>(dU t).length+Br ts
theorem Ht(t:ah)(ts:List ah):Br (t :: ts)=(dU t).length+Br ts:=rfl
theorem adI {a b:List ah}(h:a.Sublist b):Br a≤Br b:=by
 induction h with
 | slnil=>exact aj _
 | cons t _ ih=>rw[Ht];omega
 | cons_cons t _ ih=>rw[Ht,Ht];omega
theorem Mt:∀(f p:Nat)(l:List Int)(ts:List ah),Bytes l→fE f p l=some ts→∃body e,ts=body++[e]∧e.kind=0∧(∀t∈body,Tok t)∧Br body≤l.length
 | f,p,[],ts,_,h=>by
   have h0:fE f p []=some [ah.zero.goto p]:=by unfold fE;rfl
   rw[h0]at h;injection h with h;subst h;exact⟨[],_,rfl,rfl,by simp,aj _⟩
 | 0,_,_ :: _,_,_,h=>by unfold fE at h;cases h
 | f + 1, p,x :: l,ts,hb,h=>by
   have hbl:Bytes l:=fun y hy=>hb y (by simp[hy])
   rw[tq]at h;by_cases hx:x=32
   · rw[ag hx]at h
     obtain⟨body,e,h1,h2,h3,h4⟩:=Mt f (p+1) l ts hbl h;exact⟨body,e,h1,h2,h3,by simp only[bf];omega⟩
   · rw [af hx]at h
     cases hq:fJ (x :: l)with
     | none=>rw[hq]at h;cases h
     | some q =>
       obtain⟨t0,n⟩:=q;have hn:=rY _ _ _ hq;rw[hq]at h;simp only[Option.map_eq_some_iff]at h;obtain⟨us,h1,rfl⟩:=h;obtain⟨body,e,k1,k2,k3,k4⟩:=Mt f (p+n) _ us (fun y hy=>hb y (List.mem_of_mem_drop hy)) h1;obtain⟨g1,g2⟩:=aju (x :: l) t0 n p hb hq;refine⟨t0.goto p :: body,e,by rw[k1];rfl,k2, ?_, ?_⟩
       · intro t ht
         rcases ik.1 ht with rfl|ht
         · exact g1
         · exact k3 t ht
       · rw[Ht,g2];rw[lq]at k4;omega
theorem Nb:∀(l b:List Int),(∀x∈l,¬ x<32)→(∀x,b.head? = some x→x≠34)→eU (fw l++34 :: b)=some (l,(fw l).length+1)
 | [],b,_,hb=>by
   show eU (34 :: b)=_;rw[uR,af (by omega),af (by omega)];cases b with
   | nil=>rfl
   | cons y m =>
     have:=hb y rfl;simp only[this,if_false];rfl
 | x :: l,b,h,hb=>by
   have ih:=Nb l b (fun y hy=>h y (by simp[hy])) hb;have hx:=h x (by simp);by_cases h34:x=34
   · subst h34
     show eU (34 :: 34 :: (fw l++34 :: b))=_;rw[uR,af (by omega),af (by omega)];simp only[if_true];rw[ih];rfl
   · have e:fw (x :: l)=x :: fw l:=by show(if x=34 then [34,34]else [x])++fw l=_;rw[af h34];rfl
     rw[e,dE,uR,af hx,ag h34,ih];rfl
def Jq (t:ah)(b:List Int):Prop :=
 (t.kind≠5→∀x,b.head? = some x→isWord x=false∧x≠34)∧(t.kind=5→(t.text=⟨#[60]⟩∨t.text=⟨#[62]⟩)→∀x,b.head? = some x→x≠61∧x≠62)
theorem ajV (h:isWord x=false):isNum x=false:=by
 cases c:isNum x with
 | false=>rfl
 | true=>rw[Ov c]at h;cases h
theorem ajm {a b:List Int}(yo:Bytes a)(hq:fJ (a++[32])=some (t,a.length))(hb:Jq t b):fJ (a++b)=some (t,a.length):=by
 cases a with
 | nil =>
   have:=(rY _ _ _ hq).1;simp at this
 | cons x a =>
   have hsp:∀(p:Int→Bool),p 32=false→((x :: (a++[32])).takeWhile p).length=(x :: a).length→(∀y,b.head? = some y→p y=false)→(x :: (a++[32])).takeWhile p=x :: a∧(x :: (a++b)).takeWhile p=x :: a:=by
    intro p hp hl hh;obtain⟨e1,_⟩:=Wx (a:=x :: a) (b:=[32]) (b':=[32]) hp (.inr rfl) hl;refine⟨e1, ?_⟩;have aX:∀y∈x :: a,p y=true:=fun y hy=>uW p (x :: (a++[32])) y (by rw[show(x :: (a++[32])).takeWhile p=x :: a from e1];exact hy)
    exact wF p (x :: a) b aX hh
   rw[dE,rX]at hq ⊢;by_cases h1:isNum x=true
   · rw [ag h1]at hq ⊢
     unfold lJ at hq;split at hq
     · cases hq
     · rename_i hn
       simp only[aZ,bH]at hq;have hk:t.kind≠5:=by rw[← hq.1];simp
       obtain⟨e1,e2⟩:=hsp isNum (by decide) hq.2 (fun y hy=>ajV (hb.1 hk y hy).1);unfold lJ;rw[e2];rw[e1]at hn hq;rw[af (show ¬(1<(x :: a).length∧(x :: (a++b)).head? = some 48∨9223372036854775807<dG (x :: a))from hn)];exact congrArg (fun u=>some (u,(x :: a).length)) hq.1
   · rw [af h1] at hq ⊢
     by_cases h2:x=34
     · rw [ag h2]at hq ⊢
       unfold lK at hq ⊢;cases hr:eU (a++[32])with
       | none=>rw[hr]at hq;cases hq
       | some q =>
         rw[hr]at hq;simp only[jq,aZ,bH,bf]at hq;have hk:t.kind≠5:=by rw[← hq.1];simp
         have hb2:Bytes (a++[32]):=by
          intro y hy;rcases dQ.1 hy with hy|hy
          · exact yo y (by simp[hy])
          · simp at hy;omega
         have g1:=(C9 _ _ q.1 q.2 (aj _) hb2 hr).2;have g2:=IC _ _ q.1 q.2 (aj _) hr;have hl:q.2=a.length:=by omega
         rw[hl,List.take_left]at g2;have e:a++b=fw q.1++34 :: b:=by rw[g2];simp
         have e2:(fw q.1).length+1=a.length:=by rw[g2];simp
         rw[e,Nb q.1 b g1 (fun y hy=>(hb.1 hk y hy).2)];simp only[jq,bf,aZ,bH];exact⟨hq.1,by omega⟩
     · rw [af h2]at hq ⊢
       by_cases h3:x=35
       · rw [ag h3]at hq ⊢
         unfold qC at hq ⊢;by_cases h5:(x :: (a++[32])).take 5=[35,82,69,70,33]
         · rw[ag h5]at hq
           simp only[aZ,bH]at hq;have e1:(x :: (a++[32])).take 5=x :: a:=by rw[hq.2, ← dE];exact take_len _ _
           have e2:(x :: (a++b)).take 5=x :: a:=by rw[hq.2, ← dE];exact take_len _ _
           rw[e1]at h5;rw[e2,ag h5,hq.1];exact congrArg (fun k=>some (t,k)) hq.2
         · rw[af h5]at hq;cases hq
       · rw [af h3]at hq ⊢
         by_cases h4:isLet x=true∨x=36
         · rw [ag h4]at hq ⊢
           have hn:((x :: (a++[32])).takeWhile isWord).length=(x :: a).length∧t.kind≠5:=by
            unfold nD at hq;split at hq
            · simp only[aZ,bH]at hq;exact⟨hq.2,by rw[← hq.1];simp⟩
            · split at hq
              · simp only[aZ,bH]at hq;exact⟨hq.2,by rw[← hq.1];simp⟩
              · cases hq
           obtain⟨e1,e2⟩:=hsp isWord (by decide) hn.1 (fun y hy=>(hb.1 hn.2 y hy).1);rw[← hq];unfold nD;rw[e1,e2]
         · rw [af h4]at hq ⊢
           unfold o9 at hq ⊢;by_cases h5:lM (x :: (a++[32]))=0
           · rw[ag h5]at hq;cases hq
           · rw [af h5]at hq
             simp only[aZ,bH]at hq;have e1:(x :: (a++[32])).take (x :: a).length=x :: a:=by rw[← dE];exact take_len _ _
             have e2:(x :: (a++b)).take (x :: a).length=x :: a:=by rw[← dE];exact take_len _ _
             have e:lM (x :: (a++b))=lM (x :: (a++[32])):=by
              cases a with
              | nil =>
                have hs:lM (x :: [32])=1:=hq.2
                have ht:t.text=strOfNums [x]:=by
                 rw[← hq.1];show strOfNums (List.take (lM (x :: [32])) (x :: [32]))=_;rw[hs];rfl
                have hk:t.kind=5:=by rw[← hq.1]
                have h6:¬ ((x=60∧(b.head? = some 62∨b.head? = some 61))∨(x=62∧b.head? = some 61)):=by
                 rintro(⟨rfl,h|h⟩|⟨rfl,h⟩)
                 · exact(hb.2 hk (.inl ht) _ h).2 rfl
                 · exact(hb.2 hk (.inl ht) _ h).1 rfl
                 · exact(hb.2 hk (.inr ht) _ h).1 rfl
                show lM (x :: b)=lM (x :: [32]);have h7:¬ ((x=60∧(([32]:List Int).head? = some 62∨([32]:List Int).head? = some 61))∨(x=62∧([32]:List Int).head? = some 61)):=by simp
                rw[tJ,tJ,af h6,af h7]
              | cons y a=>rw[tJ,tJ];rfl
             rw[e,af h5, ← hq.1,hq.2,e1,e2]
theorem ajp {l:List Int}(h:fJ (x :: l)=some (t,n)):x≠32∧(t.kind=5→isWord x=false∧x≠34)∧(t.kind≠5→x≠61∧x≠62):=by
 rw[rX]at h;by_cases h1:isNum x=true
 · rw [ag h1]at h
   have hx:=jE h1;unfold lJ at h;split at h
   · cases h
   · simp only[aZ,bH]at h
     refine⟨by omega,fun h5 => ?_,fun _=>by omega⟩;rw[← h.1]at h5;simp at h5
 · rw [af h1]at h
   by_cases h2:x=34
   · rw [ag h2]at h
     unfold lK at h;cases hq:eU l with
     | none=>rw[hq]at h;cases h
     | some q =>
       rw[hq]at h;simp only[jq,aZ,bH]at h;refine⟨by omega,fun h5 => ?_,fun _=>by omega⟩;rw[← h.1]at h5;simp at h5
   · rw [af h2]at h
     by_cases h3:x=35
     · rw [ag h3]at h
       unfold qC at h;split at h
       · simp only[aZ,bH]at h
         refine⟨by omega,fun h5 => ?_,fun _=>by omega⟩;rw[← h.1]at h5;simp at h5
       · cases h
     · rw [af h3]at h
       by_cases h4:isLet x=true∨x=36
       · rw [ag h4]at h
         have hx:x≠32∧x≠61∧x≠62:=by
          rcases h4 with h4|h4
          · unfold isLet at h4;rw[aQ]at h4;omega
          · omega
         refine⟨hx.1,fun h5 => ?_,fun _=>hx.2⟩;unfold nD at h;split at h
         · simp only[aZ,bH]at h
           rw[← h.1]at h5;simp at h5
         · split at h
           · simp only[aZ,bH]at h
             rw[← h.1]at h5;simp at h5
           · cases h
       · rw [af h4]at h
         unfold o9 at h;split at h
         · cases h
         · rename_i h5
           simp only[aZ,bH]at h;rw[tJ]at h5
           have hx:x≠32∧x≠33:=by
            refine⟨?_, ?_⟩
            · rintro rfl;exact h5 (by rw[af (by omega),af (by omega)])
            · rintro rfl;exact h5 (by rw[af (by omega),af (by omega)])
           refine⟨hx.1,fun _=>⟨?_,h2⟩,fun h6=>absurd (show t.kind=5 by rw[← h.1]) h6⟩;unfold isWord
           have g1:isLet x=false:=by cases c:isLet x with
            | false=>rfl
            | true=>exact absurd (.inl c) h4
           have g2:isNum x=false:=by cases c:isNum x with
            | false=>rfl
            | true=>exact absurd c h1
           rw[g1,g2];simp only[Bool.false_or];exact aV (by rintro(h|h);exact h4 (.inr h);exact hx.2 h)
def FL(t:ah):Prop:=t.kind≠5∨t.text=⟨#[40]⟩∨t.text=⟨#[45]⟩
def PG(t:ah):Prop:=t.kind≠5∨t.text=⟨#[41]⟩
def Pr(t u:ah):Prop:=(t.kind≠5→u.kind=5)∧(t.kind=5→(t.text=⟨#[60]⟩∨t.text=⟨#[62]⟩)→FL u)
def Sep:List ah→Prop
 | []=>True
 | t :: ts=>(∀u,ts.head? = some u→Pr t u)∧Sep ts
theorem Sep.app:∀ {a b:List ah},Sep a→Sep b→(∀t u,a.getLast? = some t→b.head? = some u→Pr t u)→Sep (a++b)
 | [],_,_,h,_=>h
 | [t],b,_,h,hj=>⟨fun u hu=>hj t u rfl hu,h⟩
 | t :: t' :: a,b,g,h,hj=>⟨fun u hu=>g.1 u hu,Sep.app (a:=t' :: a) g.2 h (fun v u hv hu=>hj v u (by rw[← hv];rfl) hu)⟩
theorem TJ {u:ah}(h:PG t)(hu:iC s u):Pr t u:=by
 refine⟨fun _=>hu.1,fun h5 hs => ?_⟩;rcases h with h|h
 · exact absurd h5 h
 · rw[h]at hs;exact absurd hs (by decide)
theorem NN{u:ah}(ht:iC s t)(h:FL u):Pr t u:=⟨fun h5=>absurd ht.1 h5,fun _ _=>h⟩
def jf(ts:List ah):Prop:=Sep ts∧(∃t l,ts=t :: l∧FL t)∧∃l t,ts=l++[t]∧PG t
theorem jf.one(h:t.kind≠5):jf [t]:=⟨⟨fun u hu=>by simp at hu,trivial⟩,⟨t,[],rfl,.inl h⟩,[],t,rfl,.inl h⟩
theorem jf.ahead {m:ah}(hm:iC s m)(hf:FL m){a:List ah}(h:jf a):jf (m :: a):=by
 obtain⟨h1,⟨t,l,rfl,h2⟩,l',t',e,h3⟩:=h;exact⟨⟨fun u hu=>by injection hu with hu;subst hu;exact NN hm h2,h1⟩,⟨m,_,rfl,hf⟩,m :: l',t',by rw[e];rfl,h3⟩
theorem jf.mid {a b:List ah}{c:ah}(h:jf a)(hc:iC s c)(g:jf b):jf (a++c :: b):=by
 obtain⟨h1,⟨t,l,rfl,h2⟩,l',t',e,h3⟩:=h;obtain⟨g1,⟨u,m,rfl,g2⟩,m',u',e',g3⟩:=g;refine⟨?_,⟨t,_,rfl,h2⟩,(t :: l)++c :: m',u',by rw[e'];simp,g3⟩;refine Sep.app h1 ⟨fun v hv=>by injection hv with hv;subst hv;exact NN hc g2,g1⟩ ?_;intro v w hv hw;injection hw with hw;subst hw;rw[e,List.getLast?_append]at hv;simp at hv;subst hv;exact TJ h3 hc
theorem jf.brk {a:List ah}{l r:ah}(h:jf a)(hl:iC ⟨#[40]⟩ l)(hr:iC ⟨#[41]⟩ r):jf (l :: (a++[r])):=by
 obtain⟨h1,⟨t,k,rfl,h2⟩,l',t',e,h3⟩:=h;refine⟨⟨fun u hu=>by injection hu with hu;subst hu;exact NN hl h2, ?_⟩,⟨l,_,rfl,.inr (.inl hl.2)⟩,l :: (t :: k),r,rfl,.inr hr.2⟩;refine Sep.app h1 ⟨fun u hu=>by simp at hu,trivial⟩ ?_;intro v w hv hw;injection hw with hw;subst hw;rw[e,List.getLast?_append]at hv;simp at hv;subst hv;exact TJ h3 hr
theorem jf.wr {rk:Nat}(h:jf ts)(hw:Wr n rk d ts d' ts'):jf ts':=by
 rcases hw with ⟨_,rfl,_⟩|⟨_,_,l,r,hl,hr,rfl⟩
 · exact h
 · exact h.brk hl hr
theorem jf.name {a:List ah}{l r:ah}(ht:t.kind=3)(hl:iC ⟨#[40]⟩ l)(hr:iC ⟨#[41]⟩ r)(h:a=[]∨jf a):jf (t :: l :: (a++[r])):=by
 have hp:∀u,(l :: (a++[r])).head? = some u→Pr t u:=by
  intro u hu;injection hu with hu;subst hu;exact⟨fun _=>hl.1,fun h=>by omega⟩
 rcases h with rfl|h
 · exact⟨⟨hp,fun u hu=>by injection hu with hu;subst hu;exact⟨fun h=>absurd hl.1 h,fun _ h=>by rw[hl.2]at h;exact absurd h (by decide)⟩,fun u hu=>by simp at hu,trivial⟩,⟨t,_,rfl,.inl (by omega)⟩,[t,l],r,rfl,.inr hr.2⟩
 · have g:=h.brk hl hr
   exact⟨⟨hp,g.1⟩,⟨t,_,rfl,.inl (by omega)⟩,t :: l :: a,r,rfl,.inr hr.2⟩
theorem adG (h:pI ts nd):jf ts:=by
 cases h with
 | num t h=>exact jf.one (by omega)
 | text t h=>exact jf.one (by omega)
 | yes t h _=>exact jf.one (by omega)
 | no t h _=>exact jf.one (by omega)
 | dead t h=>exact jf.one (by omega)
 | ref t h=>exact jf.one (by omega)
 | range t c u h hc g _=>exact jf.mid (a:=[t]) (b:=[u]) (jf.one (by omega)) hc (jf.one (by omega))
theorem NI {rk:Nat}(h:Sh b base ns ks ts rk d) :
 (b=false→jf ts)∧(b=true→(ks=[]∧ts=[])∨(ks≠[]∧jf ts)):=by
 induction h with
 | leaf base ts nd h=>exact⟨fun _=>adG h,fun h=>by cases h⟩
 | neg base ns a ts rk d h m hm d' ts' hw ih=>exact⟨fun _=>((ih.1 rfl).wr hw).ahead hm (.inr (.inr hm.2)),fun h=>by cases h⟩
 | op base o ho ns ms a b ts us qd mO d1 d2 h g s hs e1 e2 ts' lg hw gw ih ky=>exact⟨fun _=>((ih.1 rfl).wr hw).mid hs ((ky.1 rfl).wr gw),fun h=>by cases h⟩
 | call base ns ks ts d h t l r ht h1 h2 hl hr ih =>
   refine⟨fun _=>jf.name ht hl hr ?_,fun h=>by cases h⟩;rcases ih.2 rfl with ⟨_,h⟩|⟨_,h⟩
   · exact .inl h
   · exact .inr h
 | none base=>exact⟨fun h=>(by cases h),fun _ => .inl ⟨rfl,rfl⟩⟩
 | one base ns a ts rk d h ih=>exact⟨fun h=>(by cases h),fun _ => .inr ⟨by simp,ih.1 rfl⟩⟩
 | and base ns ms ks b ts us rk d1 d2 h hk c hc g ih ky =>
   refine⟨fun h=>(by cases h),fun _ => .inr ⟨by simp, ?_⟩⟩;rcases ih.2 rfl with ⟨h,_⟩|⟨_,h⟩
   · exact absurd h hk
   · exact h.mid hc (ky.1 rfl)
def iF(ts:List ah):List Int:=ts.flatMap dU
theorem lN(t:ah)(ts:List ah):iF (t :: ts)=dU t++iF ts:=rfl
theorem ajD (ts:List ah):(iF ts).length=Br ts:=by
 induction ts with
 | nil=>rfl
 | cons t ts ih=>rw[lN,ax,ih];rfl
theorem Od (h:Tok t):∃x l,dU t=x :: l∧x≠32∧(t.kind=5→isWord x=false∧x≠34)∧(t.kind≠5→x≠61∧x≠62):=by
 have hn:=(rY _ _ _ h.2.1).1;cases e:dU t with
 | nil=>rw[e]at hn;simp at hn
 | cons x l =>
   have h2:=h.2.1;rw[e,dE]at h2;have g:=ajp h2;exact⟨x,l,rfl,g.1,fun h=>g.2.1 h,fun h=>g.2.2 h⟩
theorem Zt (hp:∀u,ts.head? = some u→Pr t u)(hu:∀u∈ts,Tok u):Jq t (iF ts):=by
 cases ts with
 | nil=>exact⟨fun _ x hx=>by simp[iF]at hx,fun _ _ x hx=>by simp[iF]at hx⟩
 | cons u us =>
   obtain⟨x,l,e,h1,h2,h3⟩:=Od (hu u (by simp));have hpr:=hp u rfl;have hh:(iF (u :: us)).head? = some x:=by rw[lN,e];rfl
   refine⟨fun hk y hy => ?_,fun hk hs y hy => ?_⟩
   · rw[hh]at hy;injection hy with hy;subst hy;exact h2 (hpr.1 hk)
   · rw [hh]at hy;injection hy with hy;subst hy
     rcases hpr.2 hk hs with g|g|g
     · exact h3 g
     · by_cases h5:u.kind=5
       · have:dU u=[40]:=by unfold dU;simp only[h5,g];rfl
         rw[this]at e;injection e with e _;omega
       · exact h3 h5
     · by_cases h5:u.kind=5
       · have:dU u=[45]:=by unfold dU;simp only[h5,g];rfl
         rw[this]at e;injection e with e _;omega
       · exact h3 h5
theorem MB:∀(ts:List ah)(p:Nat),Sep ts→(∀t∈ts,Tok t)→∃vs e,zD p (iF ts)=some (vs++[e])∧e.kind=0∧vs.map (ah.goto · 0)=ts.map (ah.goto · 0)
 | [],p,_,_=>⟨[],_,adT p,rfl,rfl⟩
 | t :: ts,p,hs,ht=>by
   have h1:=ht t (by simp);have h2:=h1.2.2;obtain⟨vs,e,g1,g2,g3⟩:=MB ts (p+(dU t).length) hs.2 (fun u hu=>ht u (by simp[hu]));obtain⟨x,l,hx,hx2,_⟩:=Od h1;have hb:Jq t (iF ts):=Zt hs.1 (fun u hu=>ht u (by simp[hu]));have hq:=ajm (t:=t.goto 0) h2 h1.2.1 hb;refine⟨(t.goto 0).goto p :: vs,e, ?_,g2,by rw[jr,jr,g3];rfl⟩;rw[lN,adS p (dU t) (iF ts) (t.goto 0) (fun y hy=>by rw[hx]at hy;injection hy with hy;omega) hq,g1];rfl
theorem iC.goto {v:ah}(h:iC s t)(hv:v.goto 0=t.goto 0):iC s v :=
 ⟨(congrArg ah.kind hv).trans h.1,(congrArg ah.text hv).trans h.2⟩
theorem Nz{v:ah}(hv:v.goto 0=t.goto 0):v.dS=t.dS:=(show(v.goto 0).dS=(t.goto 0).dS by rw[hv])
theorem pI.goto (h:pI ts nd)(vs:List ah)(hv:vs.map (ah.goto · 0)=ts.map (ah.goto · 0)):pI vs nd:=by
 have one:∀t:ah,vs.map (ah.goto · 0)=[t].map (ah.goto · 0)→∃v,vs=[v]∧v.goto 0=t.goto 0:=by
  intro t h;rw[jr,List.map_nil]at h;obtain⟨v,l,h1,h2,h3⟩:=List.map_eq_cons_iff.1 h;rw[List.map_eq_nil_iff]at h3;exact⟨v,by rw[h1,h3],h2⟩
 cases h with
 | num t h =>
   obtain⟨v,rfl,e⟩:=one t hv;have:=congrArg ah.num e;rw[← show v.num=t.num from this];exact .num v ((congrArg ah.kind e).trans h)
 | text t h =>
   obtain⟨v,rfl,e⟩:=one t hv;have:=congrArg ah.text e;rw[← show v.text=t.text from this];exact .text v ((congrArg ah.kind e).trans h)
 | yes t h g =>
   obtain⟨v,rfl,e⟩:=one t hv;exact .yes v ((congrArg ah.kind e).trans h) ((congrArg ah.text e).trans g)
 | no t h g =>
   obtain⟨v,rfl,e⟩:=one t hv;exact .no v ((congrArg ah.kind e).trans h) ((congrArg ah.text e).trans g)
 | dead t h =>
   obtain⟨v,rfl,e⟩:=one t hv;exact .dead v ((congrArg ah.kind e).trans h)
 | ref t h =>
   obtain⟨v,rfl,e⟩:=one t hv;rw[← Nz e];exact .ref v ((congrArg ah.kind e).trans h)
 | range t c u h hc g hs =>
   rw[jr,jr,jr,List.map_nil]at hv;obtain⟨t',l,rfl,e1,h3⟩:=List.map_eq_cons_iff.1 hv;obtain⟨c',l,rfl,e2,h3⟩:=List.map_eq_cons_iff.1 h3;obtain⟨u',l,rfl,e3,h3⟩:=List.map_eq_cons_iff.1 h3;rw[List.map_eq_nil_iff]at h3;subst h3;rw[← Nz e1, ← Nz e3]at hs ⊢;exact .range t' c' u' ((congrArg ah.kind e1).trans h) (hc.goto e2) ((congrArg ah.kind e3).trans g) hs
theorem Wr.goto {rk:Nat}{vs':List ah}(h:Wr n rk d ts d' ts')(hv:vs'.map (ah.goto · 0)=ts'.map (ah.goto · 0)):∃vs,vs.map (ah.goto · 0)=ts.map (ah.goto · 0)∧Wr n rk d vs d' vs':=by
 rcases h with ⟨h1,rfl,rfl⟩|⟨h1,rfl,l,r,hl,hr,rfl⟩
 · exact⟨vs',hv,.inl ⟨h1,rfl,rfl⟩⟩
 · rw[jr,iL,jr,List.map_nil]at hv
   obtain⟨l',k,rfl,e1,h3⟩:=List.map_eq_cons_iff.1 hv;obtain⟨vs,k2,rfl,e2,h3⟩:=List.map_eq_append_iff.1 h3;obtain⟨r',k3,rfl,e3,h3⟩:=List.map_eq_cons_iff.1 h3;rw[List.map_eq_nil_iff]at h3;subst h3;exact⟨vs,e2,.inr ⟨h1,rfl,l',r',hl.goto e1,hr.goto e3,rfl⟩⟩
theorem Sh.goto {rk:Nat}(h:Sh b base ns ks ts rk d):∀vs:List ah,vs.map (ah.goto · 0)=ts.map (ah.goto · 0)→Sh b base ns ks vs rk d:=by
 induction h with
 | leaf base ts nd h=>exact fun vs hv => .leaf base vs nd (h.goto vs hv)
 | neg base ns a ts rk d h m hm d' ts' hw ih =>
   intro vs hv;rw[jr]at hv;obtain⟨m',k,rfl,e1,h3⟩:=List.map_eq_cons_iff.1 hv;obtain⟨us,e2,hw'⟩:=hw.goto h3;exact .neg base ns a us rk d (ih us e2) m' (hm.goto e1) d' k hw'
 | op base o ho ns ms a b ts us qd mO d1 d2 h g s hs e1 e2 ts' lg hw gw ih ky =>
   intro vs hv;rw[iL,jr]at hv;obtain⟨a',k,rfl,f1,h3⟩:=List.map_eq_append_iff.1 hv;obtain⟨s',b',rfl,f2,f3⟩:=List.map_eq_cons_iff.1 h3;obtain⟨xs,x1,hw'⟩:=hw.goto f1;obtain⟨ys,y1,gw'⟩:=gw.goto f3;exact .op base o ho ns ms a b xs ys qd mO d1 d2 (ih xs x1) (ky ys y1) s' (hs.goto f2) e1 e2 a' b' hw' gw'
 | call base ns ks ts d h t l r ht h1 h2 hl hr ih =>
   intro vs hv;rw[jr,jr,iL,jr,List.map_nil]at hv;obtain⟨t',k,rfl,f1,h3⟩:=List.map_eq_cons_iff.1 hv;obtain⟨l',k,rfl,f2,h3⟩:=List.map_eq_cons_iff.1 h3;obtain⟨a',k,rfl,f3,h3⟩:=List.map_eq_append_iff.1 h3;obtain⟨r',k,rfl,f4,h3⟩:=List.map_eq_cons_iff.1 h3;rw[List.map_eq_nil_iff]at h3;subst h3;have ht':t'.text=t.text:=(show(t'.goto 0).text=(t.goto 0).text by rw[f1]);rw[← ht'];exact .call base ns ks a' d (ih a' f3) t' l' r' ((congrArg ah.kind f1).trans ht) (by rw[ht'];exact h1) (by rw[ht'];exact h2) (hl.goto f2) (hr.goto f4)
 | none base =>
   intro vs hv;rw[List.map_nil,List.map_eq_nil_iff]at hv;subst hv;exact .none base
 | one base ns a ts rk d h ih=>exact fun vs hv => .one base ns a vs rk d (ih vs hv)
 | and base ns ms ks b ts us rk d1 d2 h hk c hc g ih ky =>
   intro vs hv;rw[iL,jr]at hv;obtain⟨a',k,rfl,f1,h3⟩:=List.map_eq_append_iff.1 hv;obtain⟨c',b',rfl,f2,f3⟩:=List.map_eq_cons_iff.1 h3;exact .and base ns ms ks b a' b' rk d1 d2 (ih a' f1) hk c' (hc.goto f2) (ky b' f3)
theorem VZ {a:Int}{rk:Nat}(h:Sh false 0 ns [a] ts rk d)(hd:d≤12)(ht:∀t∈ts,Tok t):∃vs g,gT (iF ts)=some vs∧j4 g vs=some (.ok ns):=by
 obtain⟨vs,e,h1,h2,h3⟩:=MB ts 0 ((NI h).1 rfl).1 ht;obtain⟨g,hg⟩:=aid (h.goto vs h3) hd e h2;exact⟨vs++[e],g,h1,hg⟩
theorem WV {l:List Int}{f:Nat}(hb:Bytes l)(hl:gT l=some ts)(hp:j4 f ts=some (.ok ns)) :
 ∃us rk d a,Sh false 0 ns [a] us rk d∧d≤12∧(∀t∈us,Tok t)∧(iF us).length≤l.length∧∃vs g,gT (iF us)=some vs∧j4 g vs=some (.ok ns):=by
 obtain⟨body,e,h1,h2,h3,h4⟩:=Mt _ _ _ _ hb hl;unfold j4 at hp;rcases eO hp with ⟨er,_,h5⟩|⟨ms,a,r,h5,h6⟩
 · cases h5
 · by_cases hk:uN r=0
   · rw [ag hk]at h6
     injection h6 with h6;injection h6 with h6;subst h6;obtain⟨pre,e1,us,rk,d,lg,d',g1,g2,g3,g4⟩:=(Rw f).1 _ _ _ _ _ _ _ h5 (by omega) (by omega);obtain⟨af',e2,k2,_⟩:=((wG f).1 _ _ _ _ _ _ _ h5).1;rcases g2 with ⟨_,rfl,rfl⟩|⟨g2,_⟩
     · have ep:pre=af':=List.append_cancel_right (e1.symm.trans e2)
       subst ep
       have Sr:lg.Sublist body:=by
        have s1:lg.Sublist ts:=by rw[e1];exact g3.trans (List.sublist_append_left _ _)
        have s2:=s1.filter (fun t=>decide (t.kind≠0));rw[h1,List.filter_append]at s2;have f1:lg.filter (fun t=>decide (t.kind≠0))=lg:=List.filter_eq_self.2 (fun t ht=>aR (k2 t (g3.subset ht)));have f2:body.filter (fun t=>decide (t.kind≠0))=body:=List.filter_eq_self.2 (fun t ht=>aR (h3 t ht).1);have f3:[e].filter (fun t=>decide (t.kind≠0))=[]:=by simp[h2]
        rw[f1,f2,f3,gL]at s2;exact s2
       have G6:∀t∈lg,Tok t:=fun t ht=>h3 t (Sr.subset ht)
       refine⟨lg,rk,d',_,g1,by omega,G6, ?_,VZ g1 (by omega) G6⟩;rw[ajD];exact bN (adI Sr) h4
     · omega
   · rw[af hk]at h6;injection h6 with h6;cases h6
def bM(k:Int):Nat:=if 9≤k∧k≤14 then 0 else if k=15 then 1 else if 16≤k∧k≤17 then 2 else if 18≤k∧k≤19 then 3 else if k=8 then 4 else 5
def jm(b:Bool)(t:List Int):List Int:=if b=true then 40 :: (t++[41])else t
def iZ:List (List Int)→List Int
 | []=>[]
 | [a]=>a
 | a :: b :: l=>a++44 :: iZ (b :: l)
def nodeAt(l:List Nd)(at':Int):Nd:=l.getD at'.toNat Nd.zero
def lL:Nat→List Nd→Int→List Int
 | 0,_,_=>[]
 | f + 1,l,i =>
   if (nodeAt l i).kind=1 then bn (nodeAt l i).num.toNat
   else if (nodeAt l i).kind=2 then 34 :: (fw (sb (nodeAt l i).text)++[34])
   else if (nodeAt l i).kind=3 then (if (nodeAt l i).num=1 then [84,82,85,69]else [70,65,76,83,69])
   else if (nodeAt l i).kind=4 then [35,82,69,70,33]
   else if (nodeAt l i).kind=5 then bE (sb (nodeAt l i).ref.sh) (nodeAt l i).ref.c (nodeAt l i).ref.r (nodeAt l i).ref.ac (nodeAt l i).ref.ar
   else if (nodeAt l i).kind=6 then bE (sb (nodeAt l i).ref.sh) (nodeAt l i).ref.c (nodeAt l i).ref.r (nodeAt l i).ref.ac (nodeAt l i).ref.ar++58 :: bE (sb (nodeAt l i).ai.sh) (nodeAt l i).ai.c (nodeAt l i).ai.r (nodeAt l i).ai.ac (nodeAt l i).ai.ar
   else if (nodeAt l i).kind=7 then sb (nodeAt l i).text++40 :: (iZ ((nodeAt l i).kids.map (lL f l))++[41])
   else if (nodeAt l i).kind=8 then 45 :: jm (decide (bM (nodeAt l ((nodeAt l i).kids.getD 0 0)).kind<4)) (lL f l ((nodeAt l i).kids.getD 0 0))
   else jm (decide (bM (nodeAt l ((nodeAt l i).kids.getD 0 0)).kind<bM (nodeAt l i).kind)) (lL f l ((nodeAt l i).kids.getD 0 0)) ++
    (rQ ((nodeAt l i).kind - 9).toNat++jm (decide (bM (nodeAt l ((nodeAt l i).kids.getD 1 0)).kind≤bM (nodeAt l i).kind)) (lL f l ((nodeAt l i).kids.getD 1 0)))
def di(l:List Nd):List Int:=if dA l=true then lL l.length l ((l.length:Int) - 1)else []
theorem Mj (y:List Int):∀xs:List (List Int),xs≠[]→iZ (xs++[y])=iZ xs++44 :: y
 | [],h=>absurd rfl h
 | [x],_=>rfl
 | x :: x' :: xs,_=>by
   have ih:=Mj y (x' :: xs) (by simp);show x++44 :: iZ (x' :: xs++[y])=x++44 :: iZ (x' :: xs)++44 :: y;rw[ih];simp
theorem BI (f:Nat)(l:List Nd)(i:Int)(n:Nd)(h:nodeAt l i=n):lL (f+1) l i =
 if n.kind=1 then bn n.num.toNat
 else if n.kind=2 then 34 :: (fw (sb n.text)++[34])
 else if n.kind=3 then (if n.num=1 then [84,82,85,69]else [70,65,76,83,69])
 else if n.kind=4 then [35,82,69,70,33]
 else if n.kind=5 then bE (sb n.ref.sh) n.ref.c n.ref.r n.ref.ac n.ref.ar
 else if n.kind=6 then bE (sb n.ref.sh) n.ref.c n.ref.r n.ref.ac n.ref.ar++58 :: bE (sb n.ai.sh) n.ai.c n.ai.r n.ai.ac n.ai.ar
 else if n.kind=7 then sb n.text++40 :: (iZ (n.kids.map (lL f l))++[41])
 else if n.kind=8 then 45 :: jm (decide (bM (nodeAt l (n.kids.getD 0 0)).kind<4)) (lL f l (n.kids.getD 0 0))
 else jm (decide (bM (nodeAt l (n.kids.getD 0 0)).kind<bM n.kind)) (lL f l (n.kids.getD 0 0)) ++
  (rQ (n.kind - 9).toNat++jm (decide (bM (nodeAt l (n.kids.getD 1 0)).kind≤bM n.kind)) (lL f l (n.kids.getD 1 0))):=by
 subst h;conv=>lhs;unfold lL
theorem BP(a b:List ah):iF (a++b)=iF a++iF b:=by unfold iF;rw[List.flatMap_append]
theorem rZ (h:iC s t):dU t=sb s:=by
 unfold dU;rw[h.1,h.2];rfl
theorem Jg {rk:Nat}(h:Wr n rk d ts d' ts'):iF ts'=jm (decide (rk<n)) (iF ts):=by
 rcases h with ⟨h,rfl,_⟩|⟨h,_,l,r,hl,hr,rfl⟩
 · rw[aV (by omega)];rfl
 · rw[aR h,lN,BP,lN,rZ hl,rZ hr];rfl
def xY(l:List Nd)(base:Nat)(ns:List Nd):Prop:=∃pre post,l=pre++(ns++post)∧pre.length=base
theorem xY.left (h:xY l base (ns++ms)):xY l base ns:=by
 obtain⟨p,q,h1,h2⟩:=h;exact⟨p,ms++q,by rw[h1];simp,h2⟩
theorem xY.right (h:xY l base (ns++ms)):xY l (base+ns.length) ms:=by
 obtain⟨p,q,h1,h2⟩:=h;exact⟨p++ns,q,by rw[h1];simp,by rw[ax,h2]⟩
theorem xY.at {n:Nd}(h:xY l base [n]):nodeAt l (base:Int)=n:=by
 obtain⟨p,q,h1,h2⟩:=h;unfold nodeAt;rw[h1,Int.toNat_natCast, ← h2];simp
theorem M0:∀o:Nat,o<11→bM (9+(o:Int))=rk o∧sb (j3.getD o ⟨#[]⟩)=rQ o:=by decide +kernel
theorem aie (h:Sh b base ns ks ts qM d) :
 ∀l f,xY l base ns→ns.length≤f→(b=false→∀a,ks=[a]→lL f l a=iF ts∧bM (nodeAt l a).kind=qM)∧(b=true→iZ (ks.map (lL f l))=iF ts):=by
 induction h with
 | leaf base ts nd h =>
   intro l f hi hf;refine⟨fun _ a ha => ?_,fun h=>by cases h⟩;injection ha with ha _;subst ha;obtain⟨g,rfl⟩:∃g,f=g+1:=⟨f - 1,by simp at hf;omega⟩;have hn:=hi.at
   rw[hn];rw[BI g l _ nd hn];cases h with
   | num t h=>refine⟨?_,rfl⟩;rw[ag rfl,lN];unfold dU;rw[ag h];simp[iF]
   | text t h=>refine⟨?_,rfl⟩;rw[af (by simp),ag rfl,lN];unfold dU;rw[h,af (by decide),ag rfl];simp[iF]
   | yes t h g=>refine⟨?_,rfl⟩;rw[af (by decide),af (by decide),ag rfl,ag rfl,lN];unfold dU;rw[h,g,af (by decide),af (by decide),af (by decide),af (by decide)];rfl
   | no t h g=>refine⟨?_,rfl⟩;rw[af (by decide),af (by decide),ag rfl,af (by decide),lN];unfold dU;rw[h,g,af (by decide),af (by decide),af (by decide),af (by decide)];rfl
   | dead t h=>refine⟨?_,rfl⟩;rw[af (by decide),af (by decide),af (by decide),ag rfl,lN];unfold dU;rw[h,af (by decide),af (by decide),af (by decide),ag rfl];rfl
   | ref t h =>
     refine⟨?_,rfl⟩;rw[af (by simp),af (by simp),af (by simp),af (by simp),ag rfl,lN];unfold dU;rw[h,af (by decide),af (by decide),ag rfl];simp[iF,ah.dS]
   | range t c u h hc g hs =>
     refine⟨?_,rfl⟩;rw[af (by simp),af (by simp),af (by simp),af (by simp),af (by simp),ag rfl,lN,lN,lN,rZ hc];unfold dU;rw[h,g,af (by decide),af (by decide),ag rfl,af (by decide),af (by decide),ag rfl];have:sb (⟨#[58]⟩:ByteArray)=[58]:=by decide
     rw[this];simp[iF,ah.dS]
 | neg base ns a ts rk d h m hm d' ts' hw ih =>
   intro l f hi hf;refine⟨fun _ a' ha => ?_,fun h=>by cases h⟩;injection ha with ha _;subst ha;rw[ax,fo]at hf;obtain⟨g,rfl⟩:∃g,f=g+1:=⟨f - 1,by omega⟩;obtain⟨e1,e2⟩:=(ih l g hi.left (by omega)).1 rfl a rfl;have hn:=hi.right.at
   rw[hn];refine⟨?_,rfl⟩;rw[BI g l _ _ hn,af (by simp),af (by simp),af (by simp),af (by simp),af (by simp),af (by simp),af (by simp),ag rfl,lN,rZ hm,Jg hw];show 45 :: jm (decide (bM (nodeAt l a).kind<4)) (lL g l a)=_;rw[e1,e2];rfl
 | op base o ho ns ms a b ts us qd mO d1 d2 h g s hs x1 x2 ts' lg hw gw ih ky =>
   intro l f hi hf;refine⟨fun _ a' ha => ?_,fun h=>by cases h⟩;injection ha with ha _;subst ha;rw[ax,ax,fo]at hf;obtain⟨q,rfl⟩:∃q,f=q+1:=⟨f - 1,by omega⟩;obtain⟨e1,e2⟩:=(ih l q hi.left (by omega)).1 rfl a rfl;obtain⟨j1,j2⟩:=(ky l q hi.right.left (by omega)).1 rfl b rfl;have hn:=hi.right.right.at
   rw[Nat.add_assoc]at hn;obtain⟨hr,ht⟩:=M0 o ho;rw[hn];refine⟨?_,hr⟩
   rw [BI q l _ _ hn,af (by show ¬ 9+(o:Int)=1;omega),af (by show ¬ 9+(o:Int)=2;omega),af (by show ¬ 9+(o:Int)=3;omega),af (by show ¬ 9+(o:Int)=4;omega),af (by show ¬ 9+(o:Int)=5;omega),
    af (by show ¬ 9+(o:Int)=6;omega),af (by show ¬ 9+(o:Int)=7;omega),af (by show ¬ 9+(o:Int)=8;omega),BP,lN,rZ hs,Jg hw,Jg gw]
   show jm (decide (bM (nodeAt l a).kind<bM (9+(o:Int)))) (lL q l a)++(rQ (9+(o:Int) - 9).toNat++jm (decide (bM (nodeAt l b).kind≤bM (9+(o:Int)))) (lL q l b))=_;rw[e1,e2,j1,j2,hr,ht,show(9+(o:Int) - 9).toNat=o by omega];have:decide (mO≤rk o)=decide (mO<rk o+1):=by rw[decide_eq_decide];omega
   rw[this]
 | call base ns ks ts d h t x r ht h1 h2 hl hr ih =>
   intro l f hi hf;refine⟨fun _ a' ha => ?_,fun h=>by cases h⟩;injection ha with ha _;subst ha;rw[ax,fo]at hf;obtain⟨g,rfl⟩:∃g,f=g+1:=⟨f - 1,by omega⟩;have e1:=(ih l g hi.left (by omega)).2 rfl;have hn:=hi.right.at
   rw[hn];refine⟨?_,rfl⟩;rw[BI g l _ _ hn,af (by simp),af (by simp),af (by simp),af (by simp),af (by simp),af (by simp),ag rfl,lN,lN,BP,lN,rZ hl,rZ hr];have:dU t=sb t.text:=by unfold dU;rw[ht];rfl
   rw[this];show sb t.text++40 :: (iZ (ks.map (lL g l))++[41])=_;rw[e1];rfl
 | none base=>exact fun l f _ _=>⟨fun h=>(by cases h),fun _=>rfl⟩
 | one base ns a ts rk d h ih =>
   intro l f hi hf;exact⟨fun h=>(by cases h),fun _=>((ih l f hi hf).1 rfl a rfl).1⟩
 | and base ns ms ks b ts us rk d1 d2 h hk c hc g ih ky =>
   intro l f hi hf;refine⟨fun h=>(by cases h),fun _ => ?_⟩;rw[ax]at hf;have e1:=(ih l f hi.left (by omega)).2 rfl;have e2:=((ky l f hi.right (by omega)).1 rfl b rfl).1;rw[iL,jr,List.map_nil,Mj _ _ (by simpa using hk),e1,e2,BP,lN,rZ hc];rfl
theorem ah' (h:Sh b base ns ks ts qM d):b=false→ks=[((base+ns.length:Nat):Int) - 1]:=by
 cases h with
 | leaf base ts nd h=>intro _;simp
 | neg base ns a ts rk d h m hm d' ts' hw=>intro _;simp;omega
 | op base o ho ns ms a b ts us qd mO d1 d2 h g s hs e1 e2 ts' lg hw gw=>intro _;simp;omega
 | call base ns ks ts d h t l r ht h1 h2 hl hr=>intro _;simp;omega
 | none base=>intro h;cases h
 | one base ns a ts rk d h=>intro h;cases h
 | and base ns ms ks b ts us rk d1 d2 h hk c hc g=>intro h;cases h
theorem Dl {a:Int}(h:Sh false 0 ns [a] ts qM d)(ht:dA ns=true):di ns=iF ts:=by
 unfold di;rw[ag ht];have e:=ah' h rfl;have:=((aie h ns ns.length ⟨[],[],by simp,rfl⟩ (aj _)).1 rfl a rfl).1;injection e with e _;rw[e,Nat.zero_add]at this;exact this
theorem age {l:List Int}{f:Nat}(hb:Bytes l)(hl:gT l=some ts)(hp:j4 f ts=some (.ok ns))(ht:dA ns=true) :
 (di ns).length≤l.length∧∃vs g,gT (di ns)=some vs∧j4 g vs=some (.ok ns):=by
 obtain⟨us,qM,d,a,h1,h2,h3,h4,h5⟩:=WV hb hl hp;rw[Dl h1 ht];exact⟨h4,h5⟩
theorem WZ:∀(ns:List Nd)(st:List Int)(i:Nat),(∀k∈st,0≤k∧k<i)→nQ st i ns=true→∀(j:Nat)(n:Nd),ns[j]? = some n→dD n=true∧∀k∈n.kids,0≤k∧k<((i+j:Nat):Int)
 | [],_,_,_,_,j,n,h=>by simp at h
 | m :: ns,st,i,hst,ht,j,n,h=>by
   rw[nR,dJ,dJ,dJ,aQ,aQ]at ht;obtain⟨h1,h2,h3,h4⟩:=ht;cases j with
   | zero =>
     have:m=n:=by simpa using h
     subst this;refine⟨h1,fun k hk => ?_⟩;rw[← h3]at hk;exact hst k (List.mem_of_mem_drop hk)
   | succ j =>
     have g:=WZ ns _ (i+1) (by
      intro k hk;rcases dQ.1 hk with hk|hk
      · have:=hst k (List.mem_of_mem_take hk);omega
      · simp at hk;omega) h4 j n (by simpa using h)
     rw[show i+(j+1)=i+1+j by omega];exact g
theorem zZ (h:dA l=true)(h0:0≤i)(h1:i<l.length):dD (nodeAt l i)=true∧∀k∈(nodeAt l i).kids,0≤k∧k<i:=by
 have hi:i.toNat<l.length:=by omega
 have hn:l[i.toNat]? = some (nodeAt l i):=by
  unfold nodeAt;rw[kg,cZ hi];rfl
 have:=WZ l [] 0 (by intro k hk;simp at hk) h i.toNat _ hn;refine⟨this.1,fun k hk => ?_⟩;have:=this.2 k hk;omega
theorem rz {n:Nd}(h:dD n=true):(n.kind=8→n.kids.length=1)∧(9≤n.kind→n.kids.length=2)∧(1≤n.kind∧n.kind≤6→n.kids=[])∧1≤n.kind∧n.kind≤19∧aO n=true:=by
 unfold dD at h;rw[dJ,Bool.or_eq_true,aQ,aQ]at h;obtain⟨h1,h2⟩:=h;unfold jT at h2;split at h2
 · refine⟨by omega,by omega,fun _ => ?_,by omega,by omega,h1⟩
   apply kM;omega
 · split at h2
   · exact⟨by omega,by omega,by omega,by omega,by omega,h1⟩
   · split at h2
     · exact⟨by omega,by omega,by omega,by omega,by omega,h1⟩
     · split at h2
       · exact⟨by omega,by omega,by omega,by omega,by omega,h1⟩
       · omega
theorem CP {n:Nd}{j:Nat}(h:j<n.kids.length):n.kids.getD j 0∈n.kids:=by
 rw[kg,cZ h];exact List.getElem_mem h
theorem V7 (h:dA l=true):∀(m f g:Nat)(i:Int),0≤i→i<l.length→i.toNat<m→i<f→i<g→lL f l i=lL g l i
 | 0,_,_,_,_,_,hm,_,_=>by omega
 | m + 1, f,g,i,h0,h1,hm,hf,hg=>by
   obtain⟨f,rfl⟩:∃f',f=f'+1:=⟨f - 1,by omega⟩;obtain⟨g,rfl⟩:∃g',g=g'+1:=⟨g - 1,by omega⟩;obtain⟨hn,hk⟩:=zZ h h0 h1
   have ih:∀k∈(nodeAt l i).kids,lL f l k=lL g l k:=fun k dL=>by
    have:=hk k dL;exact V7 h m f g k this.1 (by omega) (by omega) (by omega) (by omega)
   obtain⟨a1,a2,_,_,_,_⟩:=rz hn;rw[BI f l i _ rfl,BI g l i _ rfl];by_cases k7:(nodeAt l i).kind=7
   · have:(nodeAt l i).kids.map (lL f l)=(nodeAt l i).kids.map (lL g l):=List.map_congr_left ih
     simp only[k7,this,reduceIte,Int.reduceEq]
   · by_cases k8:(nodeAt l i).kind=8
     · have e0:=ih _ (CP (j:=0) (by rw[a1 k8];omega))
       simp only[k8,e0,reduceIte,Int.reduceEq]
     · by_cases k9:9≤(nodeAt l i).kind
       · have e0:=ih _ (CP (j:=0) (by rw[a2 k9];omega))
         have e1:=ih _ (CP (j:=1) (by rw[a2 k9];omega));simp only[k7,if_false,e0,e1]
       · have:∀k:Int,k≤8→k≠7→k≠8→1≤k→k=1∨k=2∨k=3∨k=4∨k=5∨k=6:=by omega
         rcases this (nodeAt l i).kind (by omega) k7 k8 (by omega)with e|e|e|e|e|e <;> simp[e]
def bJ(l:List Nd)(i:Int):List Int:=lL l.length l i
theorem wE (h:dA l=true)(h0:0≤i)(h1:i<l.length)(n:Nd)(hn:nodeAt l i=n):bJ l i =
 if n.kind=1 then bn n.num.toNat
 else if n.kind=2 then 34 :: (fw (sb n.text)++[34])
 else if n.kind=3 then (if n.num=1 then [84,82,85,69]else [70,65,76,83,69])
 else if n.kind=4 then [35,82,69,70,33]
 else if n.kind=5 then bE (sb n.ref.sh) n.ref.c n.ref.r n.ref.ac n.ref.ar
 else if n.kind=6 then bE (sb n.ref.sh) n.ref.c n.ref.r n.ref.ac n.ref.ar++58 :: bE (sb n.ai.sh) n.ai.c n.ai.r n.ai.ac n.ai.ar
 else if n.kind=7 then sb n.text++40 :: (iZ (n.kids.map (bJ l))++[41])
 else if n.kind=8 then 45 :: jm (decide (bM (nodeAt l (n.kids.getD 0 0)).kind<4)) (bJ l (n.kids.getD 0 0))
 else jm (decide (bM (nodeAt l (n.kids.getD 0 0)).kind<bM n.kind)) (bJ l (n.kids.getD 0 0)) ++
  (rQ (n.kind - 9).toNat++jm (decide (bM (nodeAt l (n.kids.getD 1 0)).kind≤bM n.kind)) (bJ l (n.kids.getD 1 0))):=by
 have:=V7 h (i.toNat+1) l.length (l.length+1) i h0 h1 (by omega) h1 (by omega);unfold bJ;rw[this,BI l.length l i n hn]
structure aD where
 t:ByteArray
 node:Int
 least:Int
def aD.plain(t:ByteArray):aD:=⟨t,0,0⟩
def aD.op(node least:Int):aD:=⟨⟨#[]⟩,node,least⟩
def kX(l:List Nd)(p:aD):List Int:=if p.t=⟨#[]⟩then jm (decide ((bM (nodeAt l p.node).kind:Int)+1<p.least)) (bJ l p.node)else sb p.t
def kr(l:List Nd)(p:aD):Prop:=p.t=⟨#[]⟩→0≤p.node∧p.node<l.length
theorem CY (l:List Nd)(i m:Int):kX l (aD.op i m)=jm (decide ((bM (nodeAt l i).kind:Int)+1<m)) (bJ l i):=by
 unfold kX;rw[ag (show(aD.op i m).t=⟨#[]⟩from rfl)];rfl
theorem Iw (l:List Nd)(t:ByteArray)(h:t≠⟨#[]⟩):kX l (aD.plain t)=sb t:=by
 unfold kX;rw[af (show ¬ (aD.plain t).t=⟨#[]⟩from h)];rfl
theorem kr.plain(l:List Nd)(t:ByteArray)(h:t≠⟨#[]⟩):kr l (aD.plain t):=fun e=>absurd e h
theorem kr.op(h0:0≤i)(h1:i<l.length)(m:Int):kr l (aD.op i m):=fun _=>⟨h0,h1⟩
def oW:List Int→List aD
 | []=>[]
 | [a]=>[aD.op a 1]
 | a :: b :: ks=>aD.op a 1 :: aD.plain ⟨#[44]⟩ :: oW (b :: ks)
theorem Mg (l:List Nd)(i:Int):jm (decide ((bM (nodeAt l i).kind:Int)+1<1)) (bJ l i)=bJ l i:=by
 rw[aV (by omega)];rfl
theorem PU (l:List Nd):∀ks:List Int,(oW ks).flatMap (kX l)=iZ (ks.map (bJ l))
 | []=>rfl
 | [a]=>by
   show kX l (aD.op a 1)++[]=bJ l a;rw[gL,CY,Mg]
 | a :: b :: ks=>by
   have ih:=PU l (b :: ks);show kX l (aD.op a 1)++(kX l (aD.plain ⟨#[44]⟩)++(oW (b :: ks)).flatMap (kX l))=bJ l a++44 :: iZ ((b :: ks).map (bJ l));rw[ih,CY,Mg,Iw l _ (by decide)];rfl
def eP (n:Nd):List Int × List aD :=
 if n.kind=1 then (bn n.num.toNat,[])
 else if n.kind=2 then (34 :: (fw (sb n.text)++[34]),[])
 else if n.kind=3 then ((if n.num=1 then [84,82,85,69]else [70,65,76,83,69]),[])
 else if n.kind=4 then ([35,82,69,70,33],[])
 else if n.kind=5 then (bE (sb n.ref.sh) n.ref.c n.ref.r n.ref.ac n.ref.ar,[])
 else if n.kind=6 then (bE (sb n.ref.sh) n.ref.c n.ref.r n.ref.ac n.ref.ar++58 :: bE (sb n.ai.sh) n.ai.c n.ai.r n.ai.ac n.ai.ar,[])
 else if n.kind=7 then (sb n.text++[40],oW n.kids++[aD.plain ⟨#[41]⟩])
 else if n.kind=8 then ([45],[aD.op (n.kids.getD 0 0) 5])
 else ([],[aD.op (n.kids.getD 0 0) ((bM n.kind:Int)+1),aD.plain (j3.getD (n.kind - 9).toNat ⟨#[]⟩),aD.op (n.kids.getD 1 0) ((bM n.kind:Int)+2)])
theorem KW{p q:Prop} [Decidable p] [Decidable q] (h:p↔q):decide p=decide q:=by rw[decide_eq_decide];exact h
theorem UC:∀o:Nat,o<11→j3.getD o ⟨#[]⟩≠⟨#[]⟩:=by decide
theorem aiO (h:dA l=true)(h0:0≤i)(h1:i<l.length)(n:Nd)(hn:nodeAt l i=n):bJ l i=(eP n).1++(eP n).2.flatMap (kX l):=by
 obtain⟨hnb, -⟩:=zZ h h0 h1;rw[hn]at hnb;obtain⟨-, -, -,b1,b2, -⟩:=rz hnb;rw[wE h h0 h1 n hn];unfold eP;split
 · simp
 split
 · simp
 split
 · simp
 split
 · simp
 split
 · simp
 split
 · simp
 split
 · rw[List.flatMap_append,PU,qm,List.flatMap_nil,Iw l _ (by decide)]
   simp only[bQ,dE,gX,gL];rfl
 split
 · rw[qm,List.flatMap_nil,CY,gL,KW (show(bM (nodeAt l (n.kids.getD 0 0)).kind<4↔(bM (nodeAt l (n.kids.getD 0 0)).kind:Int)+1<5)by omega)]
   rfl
 · have ho:(n.kind - 9).toNat<11:=by omega
   rw [qm,qm,qm,List.flatMap_nil,CY,CY,Iw l _ (UC _ ho),(M0 _ ho).2,gL,gX,
    KW (show(bM (nodeAt l (n.kids.getD 0 0)).kind<bM n.kind↔(bM (nodeAt l (n.kids.getD 0 0)).kind:Int)+1<(bM n.kind:Int)+1)by omega),
    KW (show(bM (nodeAt l (n.kids.getD 1 0)).kind≤bM n.kind↔(bM (nodeAt l (n.kids.getD 1 0)).kind:Int)+1<(bM n.kind:Int)+2)by omega)]
theorem PX :∀ks:List Int,(∀k∈ks,0≤k∧k<(l.length:Int))→∀p∈oW ks,kr l p
 | [],_,p,hp=>by simp[oW]at hp
 | [a],h,p,hp=>by
   simp[oW]at hp;subst hp;exact kr.op (h a (by simp)).1 (h a (by simp)).2 1
 | a :: b :: ks,h,p,hp=>by
   simp only[oW,ik]at hp;rcases hp with rfl|rfl|hp
   · exact kr.op (h a (by simp)).1 (h a (by simp)).2 1
   · exact kr.plain l _ (by decide)
   · exact PX (b :: ks) (fun k hk=>h k (List.mem_cons_of_mem _ hk)) p hp
theorem aiP (h:dA l=true)(h0:0≤i)(h1:i<l.length)(n:Nd)(hn:nodeAt l i=n):∀p∈(eP n).2,kr l p:=by
 obtain⟨hnb,hk⟩:=zZ h h0 h1;rw[hn]at hnb hk;obtain⟨a1,a2, -,b1,b2, -⟩:=rz hnb;have hkl:∀k∈n.kids,0≤k∧k<(l.length:Int):=fun k dL=>by have:=hk k dL;omega
 intro p hp;unfold eP at hp;split at hp
 · simp at hp
 split at hp
 · simp at hp
 split at hp
 · simp at hp
 split at hp
 · simp at hp
 split at hp
 · simp at hp
 split at hp
 · simp at hp
 split at hp
 · rcases dQ.1 hp with hp|hp
   · exact PX _ hkl p hp
   · rw[gM.1 hp];exact kr.plain l _ (by decide)
 split at hp
 · rename_i k8
   rw[gM.1 hp];have:=hkl _ (CP (n:=n) (j:=0) (by rw[a1 k8];omega));exact kr.op this.1 this.2 5
 · have k9:9≤n.kind:=by omega
   have g0:=hkl _ (CP (n:=n) (j:=0) (by rw[a2 k9];omega));have g1:=hkl _ (CP (n:=n) (j:=1) (by rw[a2 k9];omega));simp only[ik,List.not_mem_nil,or_false]at hp;rcases hp with rfl|rfl|rfl
   · exact kr.op g0.1 g0.2 _
   · exact kr.plain l _ (UC _ (by omega))
   · exact kr.op g1.1 g1.2 _
def ny (l:List Nd)(p:aD):List Int × List aD :=
 if p.t=⟨#[]⟩then (if (bM (nodeAt l p.node).kind:Int)+1<p.least then (40 :: (eP (nodeAt l p.node)).1,(eP (nodeAt l p.node)).2++[aD.plain ⟨#[41]⟩])else eP (nodeAt l p.node))else (sb p.t,[])
theorem WB (h:dA l=true)(p:aD)(hp:kr l p):kX l p=(ny l p).1++(ny l p).2.flatMap (kX l):=by
 rw[show kX l p=if p.t=⟨#[]⟩then jm (decide ((bM (nodeAt l p.node).kind:Int)+1<p.least)) (bJ l p.node)else sb p.t from rfl];unfold ny;by_cases ht:p.t=⟨#[]⟩
 · obtain ⟨h0,h1⟩:=hp ht
   rw[ag ht,ag ht,aiO h h0 h1 _ rfl];by_cases hr:(bM (nodeAt l p.node).kind:Int)+1<p.least
   · rw[ag hr,aR hr,List.flatMap_append,qm,List.flatMap_nil,Iw l _ (by decide)]
     show 40 :: (((eP (nodeAt l p.node)).1++(eP (nodeAt l p.node)).2.flatMap (kX l))++[41])=_;simp only[bQ,dE,gL];rfl
   · rw[af hr,aV hr];rfl
 · rw[af ht,af ht];simp
theorem NT (h:dA l=true)(p:aD)(hp:kr l p):∀q∈(ny l p).2,kr l q:=by
 unfold ny;by_cases ht:p.t=⟨#[]⟩
 · obtain ⟨h0,h1⟩:=hp ht
   rw[ag ht];have:=aiP h h0 h1 _ rfl;by_cases hr:(bM (nodeAt l p.node).kind:Int)+1<p.least
   · rw[ag hr]
     intro q hq;rcases dQ.1 hq with hq|hq
     · exact this q hq
     · rw[gM.1 hq];exact kr.plain l _ (by decide)
   · rw[af hr];exact this
 · rw[af ht];intro q hq;simp at hq
theorem WU {l:List Int}(aX:∀y∈x :: l,isWord y=true)(hx:isLet x=true∨x=36):fJ (x :: l++[32])=(match iA (strOfNums (x :: l))with
 | some d=>some ({ ah.zero with kind:=4,sh:=d.sh,c:=d.c,r:=d.r,ac:=d.ac,ar:=d.ar },(x :: l).length)
 | none=>if jL (x :: l)=true then some ({ ah.zero with kind:=3,text:=strOfNums (x :: l) },(x :: l).length)else none):=by
 have h1:¬ isNum x=true:=by
  rcases hx with hx|hx
  · unfold isLet at hx;unfold isNum;rw[aQ]at hx ⊢;omega
  · subst hx;decide
 have h2:¬ x=34∧¬ x=35:=by
  rcases hx with hx|hx
  · unfold isLet at hx;rw[aQ]at hx;omega
  · omega
 have ht:(x :: (l++[32])).takeWhile isWord=x :: l:=wF isWord (x :: l) [32] aX (fun y hy=>by simp at hy;subst hy;decide);rw[dE,rX,af h1,af h2.1,af h2.2,ag hx];unfold nD;rw[ht];rfl
def Fz(n:Int):ah:={ ah.zero with kind:=1,num:=n }
def FC(s:ByteArray):ah:={ ah.zero with kind:=2,text:=s }
def xB(s:ByteArray):ah:={ ah.zero with kind:=3,text:=s }
def yL(r:bL):ah:={ ah.zero with kind:=4,sh:=r.sh,c:=r.c,r:=r.r,ac:=r.ac,ar:=r.ar }
def FB(s:ByteArray):ah:={ ah.zero with kind:=5,text:=s }
def Fy:ah:={ ah.zero with kind:=6 }
theorem ajq {n:Int}(h0:0≤n)(h:n≤9223372036854775807):Tok (Fz n):=by
 have e:dU (Fz n)=bn n.toNat:=rfl;refine⟨(by simp[Fz]), ?_,by rw[e];exact Ql _⟩;have:=ajo n.toNat (by omega) [32] (fun x hx=>by simp at hx;subst hx;decide);rw[e,this,Int.toNat_of_nonneg h0];rfl
theorem KN:∀l:List Int,Bytes l→Bytes (fw l)
 | [],_=>Bytes.nil
 | x :: l,h=>by
   have ih:=KN l (fun y hy=>h y (by simp[hy]));show Bytes ((if x=34 then [34,34]else [x])++fw l);refine Bytes.append ?_ ih;split
   · intro y hy;simp at hy;omega
   · intro y hy;simp at hy;subst hy;exact h y (by simp)
theorem ajs (h:mM (sb s)=true):Tok (FC s):=by
 have e:dU (FC s)=34 :: (fw (sb s)++[34]):=rfl;have hb:Bytes [34]:=by intro x hx;simp at hx;omega
 refine⟨(by simp[FC]), ?_,by rw[e];exact Bytes.append (a:=[34]) hb ((KN _ (uS s)).append hb)⟩;unfold mM at h;have:=Nb (sb s) [32] (of_decide_eq_true h) (fun x hx=>by simp at hx;omega);rw[e,dE,rX,af (by decide),ag rfl];unfold lK;rw[bQ,qj,this];simp only[jq,aZ,bH,nA,bf,ax,dX]
 first
  | rfl
  | exact⟨rfl,trivial⟩
theorem Oe (h:jL (sb s)=true)(hr:(iA s).isNone=true):Tok (xB s):=by
 have e:dU (xB s)=sb s:=rfl;refine⟨(by simp[xB]), ?_,by rw[e];exact uS s⟩;have hc:=h;unfold jL at hc;rw[dJ,dJ,aQ,aQ]at hc;obtain⟨c1,c2,c3⟩:=hc;have hs:=nA s;rw[e];cases hq:sb s with
 | nil=>rw[hq]at c2;simp at c2
 | cons x l =>
   rw[hq]at c1 c3 hs h
   have aX:∀y∈x :: l,isWord y=true:=by
    intro y hy;have:=c1 y hy;rw[Bool.or_eq_true]at this;rcases this with g|g
    · exact Xi g
    · exact Ov g
   have hx:isLet x=true:=by
    have hx:aU x=true:=by simpa using c3
    unfold aU at hx;unfold isLet;rw[aQ]at hx ⊢;omega
   rw[WU aX (.inl hx),hs];cases hd:iA s with
   | some d=>rw[hd]at hr;cases hr
   | none=>simp only;rw[ag h];rfl
theorem Og {r:bL}(h:bX r=true):Tok (yL r):=by
 have e:dU (yL r)=bE (sb r.sh) r.c r.r r.ac r.ar:=rfl;refine⟨(by simp[yL]), ?_,by rw[e];exact AO _ _ _ _ _⟩;obtain⟨x,l,hd,hx⟩:=ai6 (sb r.sh) r.c r.r r.ac r.ar h;have aX:=ajY (sb r.sh) r.c r.r r.ac r.ar h;obtain⟨d,hr,e1,e2,e3,e4,e5⟩:=agw r.sh r.c r.r r.ac r.ar h;rw[e];rw[hd]at aX hr ⊢;rw[WU aX hx,hr];simp only[e1,e2,e3,e4,e5];rfl
def Je (t:ah):Bool:=match fJ (dU t++[32])with
 | some (u,n)=>decide (n=(dU t).length)&&(decide (u.kind=t.kind∧u.text=t.text∧u.num=t.num∧u.sh=t.sh∧u.c=t.c∧u.r=t.r∧u.pos=0)&&(u.ac == t.ac&&u.ar == t.ar))
 | none=>false
theorem WS (h:Je t=true)(hk:t.kind≠0)(hb:Bytes (dU t)):Tok t:=by
 refine⟨hk, ?_,hb⟩;unfold Je at h;cases hq:fJ (dU t++[32])with
 | none=>rw[hq]at h;cases h
 | some q =>
   obtain⟨u,n⟩:=q;rw[hq]at h;simp only[dJ,aQ,bB]at h;obtain⟨h1,⟨g1,g2,g3,g4,g5,g6,g7⟩,g8,g9⟩:=h;rw[h1]
   have:u=t.goto 0:=by
    cases u;cases t;simp only[ah.goto]at *;subst g1 g2 g3 g4 g5 g6 g7 g8 g9;rfl
   rw[this]
def xA:List ByteArray:=[⟨#[40]⟩,⟨#[41]⟩,⟨#[44]⟩,⟨#[58]⟩]++j3
theorem aiG:xA.all (fun s=>Je (FB s)&&(dU (FB s)).all fun x=>decide (0≤x∧x≤255))=true:=by decide +kernel
theorem aao:(Je Fy&&(dU Fy).all fun x=>decide (0≤x∧x≤255))=true:=by decide +kernel
theorem zY (h:s∈xA):Tok (FB s)∧iC s (FB s):=by
 have:=List.all_eq_true.1 aiG s h;rw[dJ]at this;refine⟨WS this.1 (by decide +revert) ?_,rfl,rfl⟩;intro x hx
 simpa using List.all_eq_true.1 this.2 x hx
theorem ajn:Tok Fy:=by
 have:=aao;rw[dJ]at this;refine⟨by decide,(WS this.1 (by decide) ?_).2.1, ?_⟩
 all_goals
  intro x hx
  simpa using List.all_eq_true.1 this.2 x hx
theorem Uq {r:bL}(h:fQ r=true):r=bL.zero:=by
 unfold fQ at h;rw[dJ,aQ,dJ]at h;obtain⟨⟨h1,h2,h3⟩,h4,h5⟩:=h;cases r with
 | mk sh c r ac ar =>
   simp only at h1 h2 h3 h4 h5;subst h1 h2 h3;cases ac <;> cases ar <;> simp at h4 h5
   rfl
theorem Tm {n:Nd}(h:aO n=true):(n.kind=1∨n.kind=3∨n.num=0)∧(n.kind=2∨n.kind=7∨n.text=⟨#[]⟩)∧(n.kind=5∨n.kind=6∨n.ref=bL.zero)∧(n.kind=6∨n.ai=bL.zero) ∧
 (if n.kind=1 then decide (0≤n.num)
   else if n.kind=3 then decide (n.num=0∨n.num=1)
   else if n.kind=2 then mM (sb n.text)
   else if n.kind=7 then kv n.text
   else if n.kind=5 then bX n.ref
   else if n.kind=6 then bX n.ref&&(bX n.ai&&fI n.ref n.ai)
   else true)=true:=by
 unfold aO at h;by_cases c:(n.kind≠1∧n.kind≠3∧n.num≠0)∨(n.kind≠2∧n.kind≠7∧n.text≠⟨#[]⟩)∨(n.kind≠5∧n.kind≠6∧fQ n.ref=false)∨(n.kind≠6∧fQ n.ai=false)
 · rw[ag c]at h;cases h
 · rw [af c]at h
   refine⟨?_, ?_, ?_, ?_,h⟩
   · apply Decidable.byContradiction;intro d;exact c (.inl ⟨fun e=>d (.inl e),fun e=>d (.inr (.inl e)),fun e=>d (.inr (.inr e))⟩)
   · by_cases d1:n.kind=2
     · exact .inl d1
     · by_cases d2:n.kind=7
       · exact .inr (.inl d2)
       · by_cases d3:n.text=⟨#[]⟩
         · exact .inr (.inr d3)
         · exact absurd (.inr (.inl ⟨d1,d2,d3⟩)) c
   · by_cases d1:n.kind=5
     · exact .inl d1
     · by_cases d2:n.kind=6
       · exact .inr (.inl d2)
       · cases d3:fQ n.ref with
         | true=>exact .inr (.inr (Uq d3))
         | false=>exact absurd (.inr (.inr (.inl ⟨d1,d2,d3⟩))) c
   · by_cases d2:n.kind=6
     · exact .inl d2
     · cases d3:fQ n.ai with
       | true=>exact .inr (Uq d3)
       | false=>exact absurd (.inr (.inr (.inr ⟨d2,d3⟩))) c
theorem adH {n:Nd}(h:aO n=true)(h1:1≤n.kind)(h2:n.kind≤6)(hk:n.kids=[])(hm:n.num≤9223372036854775807):∃ts,pI ts n∧∀t∈ts,Tok t:=by
 obtain⟨f1,f2,f3,f4,f5⟩:=Tm h;cases n with
 | mk kind num text ref ai kids =>
   simp only at f1 f2 f3 f4 f5 h1 h2 hk hm;subst hk;by_cases c1:kind=1
   · subst c1
     rw[ag rfl]at f5;obtain rfl:=(f2.resolve_left (by omega)).resolve_left (by omega);obtain rfl:=(f3.resolve_left (by omega)).resolve_left (by omega);obtain rfl:=f4.resolve_left (by omega);exact⟨[Fz num],.num (Fz num) rfl,by intro t ht;simp at ht;subst ht;exact ajq (of_decide_eq_true f5) hm⟩
   · rw [af c1]at f5
     by_cases c3:kind=3
     · subst c3
       rw[ag rfl]at f5;obtain rfl:=(f2.resolve_left (by omega)).resolve_left (by omega);obtain rfl:=(f3.resolve_left (by omega)).resolve_left (by omega);obtain rfl:=f4.resolve_left (by omega)
       have hw:∀s:ByteArray,s=⟨#[84,82,85,69]⟩∨s=⟨#[70,65,76,83,69]⟩→Tok (xB s):=by
        intro s hs;rcases hs with rfl|rfl
        · exact Oe (by decide +kernel) (by decide +kernel)
        · exact Oe (by decide +kernel) (by decide +kernel)
       rcases of_decide_eq_true f5 with rfl|rfl
       · exact⟨[xB ⟨#[70,65,76,83,69]⟩],.no (xB _) rfl rfl,by intro t ht;simp at ht;subst ht;exact hw _ (.inr rfl)⟩
       · exact⟨[xB ⟨#[84,82,85,69]⟩],.yes (xB _) rfl rfl,by intro t ht;simp at ht;subst ht;exact hw _ (.inl rfl)⟩
     · rw [af c3]at f5
       obtain rfl:=(f1.resolve_left c1).resolve_left c3;by_cases c2:kind=2
       · subst c2
         rw[ag rfl]at f5;obtain rfl:=(f3.resolve_left (by omega)).resolve_left (by omega);obtain rfl:=f4.resolve_left (by omega);exact⟨[FC text],.text (FC text) rfl,by intro t ht;simp at ht;subst ht;exact ajs f5⟩
       · rw [af c2,af (by omega)]at f5
         obtain rfl:=(f2.resolve_left c2).resolve_left (by omega);by_cases c5:kind=5
         · subst c5
           rw[ag rfl]at f5;obtain rfl:=f4.resolve_left (by omega);exact⟨[yL ref],.ref (yL ref) rfl,by intro t ht;simp at ht;subst ht;exact Og f5⟩
         · rw [af c5]at f5
           by_cases c6:kind=6
           · subst c6
             rw[ag rfl,dJ,dJ]at f5;obtain⟨g,gs⟩:=zY (s:=⟨#[58]⟩) (by simp[xA,j3]);refine⟨[yL ref,FB ⟨#[58]⟩,yL ai],.range (yL ref) _ (yL ai) rfl gs rfl f5.2.2, ?_⟩;intro t ht;simp at ht;rcases ht with rfl|rfl|rfl
             · exact Og f5.1
             · exact g
             · exact Og f5.2.1
           · obtain rfl:kind=4:=by omega
             obtain rfl:=(f3.resolve_left (by omega)).resolve_left (by omega);obtain rfl:=f4.resolve_left (by omega);exact⟨[Fy],.dead Fy rfl,by intro t ht;simp at ht;subst ht;exact ajn⟩
theorem Oy (n rk d:Nat)(ts:List ah)(h:∀t∈ts,Tok t):∃d' ts',Wr n rk d ts d' ts'∧∀t∈ts',Tok t:=by
 by_cases c:n≤rk
 · exact⟨d,ts,.inl ⟨c,rfl,rfl⟩,h⟩
 · obtain ⟨g1,s1⟩:=zY (s:=⟨#[40]⟩) (by simp[xA,j3])
   obtain⟨g2,s2⟩:=zY (s:=⟨#[41]⟩) (by simp[xA,j3]);refine⟨d+1,_,.inr ⟨by omega,rfl,_,_,s1,s2,rfl⟩, ?_⟩;intro t ht;rcases ik.1 ht with rfl|ht
   · exact g1
   · rcases dQ.1 ht with ht|ht
     · exact h t ht
     · simp at ht;subst ht;exact g2
inductive FS:Nat→List Nd→List Int→Prop
 | nil:FS 0 [] []
 | snoc (i:Nat)(done:List Nd)(st:List Int)(h:FS i done st)(ns:List Nd)(a:Int)(ts:List ah)(rk d:Nat)(g:Sh false i ns [a] ts rk d)(ht:∀t∈ts,Tok t):FS (i+ns.length) (done++ns) (st++[a])
theorem FS.last {i:Nat}{all:List Nd}{st:List Int}{a:Int}(h:FS i all (st++[a])):∃j done ns ts rk d,FS j done st∧all=done++ns∧i=j+ns.length∧Sh false j ns [a] ts rk d∧∀t∈ts,Tok t:=by
 generalize e:st++[a]=st' at h;cases h with
 | nil=>simp at e
 | snoc j done st0 h ns a0 ts rk d g ht =>
   obtain⟨rfl,e2⟩:=List.append_inj' e rfl;injection e2 with e2 _;subst e2;exact⟨j,done,ns,ts,rk,d,h,rfl,rfl,g,ht⟩
theorem FS.ae7 {i:Nat}{done:List Nd}{st:List Int}(h:FS i done st)(e:st=[]):done=[]∧i=0:=by
 cases h with
 | nil=>exact⟨rfl,rfl⟩
 | snoc=>simp at e
theorem aic (h:Sh true base ns ks ts qM d)(e:ks=[]):ns=[]∧ts=[]:=by
 cases h with
 | none=>exact⟨rfl,rfl⟩
 | one=>cases e
 | and=>simp at e
theorem FS.many:∀(m:Nat)(ks:List Int),ks.length=m→∀(i:Nat)(all:List Nd)(st:List Int),FS i all (st++ks)→∃j done ns ts d,FS j done st∧all=done++ns∧i=j+ns.length∧Sh true j ns ks ts 0 d∧∀t∈ts,Tok t
 | 0,ks,hk,i,all,st,h=>by
   obtain rfl:=kM hk;rw[gL]at h;exact⟨i,all,[],[],0,h,by simp,by simp,.none i,by simp⟩
 | m + 1,ks,hk,i,all,st,h=>by
   obtain⟨ks',b,rfl⟩:∃ks' b,ks=ks'++[b]:=⟨ks.dropLast,ks.getLast (by rintro rfl;simp at hk),(List.dropLast_concat_getLast _).symm⟩;rw[← bQ]at h;obtain⟨j,done,ns,ts,rk,d,h1,rfl,rfl,h2,h3⟩:=h.last;obtain⟨j',wX,ns',ts',d',g1,rfl,rfl,g2,g3⟩:=FS.many m ks' (by simpa using hk) j done st h1;by_cases c:ks'=[]
   · subst c
     obtain⟨rfl,rfl⟩:=aic g2 rfl;exact⟨j',wX,ns,ts,d,g1,by simp,by simp,.one j' ns b ts rk d (by simpa using h2),h3⟩
   · obtain ⟨gc,sc⟩:=zY (s:=⟨#[44]⟩) (by simp[xA,j3])
     refine⟨j',wX,ns'++ns,_,_,g1,by rw[bQ],by rw[ax,Nat.add_assoc],.and j' ns' ns ks' b ts' ts rk d' d g2 c _ sc h2, ?_⟩;intro t ht;rcases dQ.1 ht with ht|ht
     · exact g3 t ht
     · rcases ik.1 ht with rfl|ht
       · exact gc
       · exact h3 t ht
theorem WY:∀(ns:List Nd)(i:Nat)(done:List Nd)(st:List Int),FS i done st→nQ st i ns=true→(∀n∈ns,n.num≤9223372036854775807)→∃a,FS (i+ns.length) (done++ns) [a]
 | [],i,done,st,h,ht,_=>by
   have:st.length=1:=of_decide_eq_true ht
   match st,this with
   | [a],_=>exact⟨a,by simpa using h⟩
 | n :: ns, i,done,st,h,ht,hm=>by
   rw[nR,dJ,dJ,dJ,aQ,aQ]at ht;obtain⟨h1,h2,h3,h4⟩:=ht;have hst:st=st.take (st.length - n.kids.length)++n.kids:=by conv=>lhs;rw[← List.take_append_drop (st.length - n.kids.length) st,h3]
   generalize st.take (st.length - n.kids.length)=st0 at hst h4;subst hst;unfold dD at h1;rw[dJ,Bool.or_eq_true,aQ,aQ]at h1;obtain⟨hl,ha⟩:=h1
   have hfs : FS (i+1) (done++[n]) (st0++[(i:Int)]):=by
    by_cases c1:1≤n.kind∧n.kind≤6
    · have hk:n.kids=[]:=by
       unfold jT at ha;rw[ag c1]at ha;exact kM (by omega)
      rw[hk,gL]at h;obtain⟨ts,g1,g2⟩:=adH hl c1.1 c1.2 hk (hm n (by simp));exact .snoc i done st0 h [n] _ ts 5 0 (.leaf i ts n g1) g2
    · obtain ⟨f1,f2,f3,f4,f5⟩:=Tm hl
      have e1:n.num=0:=(f1.resolve_left (by omega)).resolve_left (by omega);have e3:n.ref=bL.zero:=(f3.resolve_left (by omega)).resolve_left (by omega);have e4:n.ai=bL.zero:=f4.resolve_left (by omega);rw[af (by omega),af (by omega),af (by omega)]at f5;by_cases c7:n.kind=7
      · rw [ag c7]at f5
        unfold kv at f5;rw[dJ,dJ,dJ,aQ,aQ]at f5;obtain⟨j,wX,ms,ts,d,g1,rfl,rfl,g2,g3⟩:=FS.many _ n.kids rfl i done st0 h;obtain⟨gl,sl⟩:=zY (s:=⟨#[40]⟩) (by simp[xA,j3]);obtain⟨gr,sr⟩:=zY (s:=⟨#[41]⟩) (by simp[xA,j3]);have gn:=Oe f5.1 f5.2.1
        have hn:n={ Nd.zero with kind:=7,text:=(xB n.text).text,kids:=n.kids }:=by
         cases n;simp only at e1 e3 e4 c7;subst e1 e3 e4 c7;rfl
        have hsh:=Sh.call j ms n.kids ts d g2 (xB n.text) _ _ rfl f5.2.2.1 f5.2.2.2 sl sr;rw[← hn]at hsh
        have := FS.snoc j wX st0 g1 (ms++[n]) _ _ _ _ hsh (by
         intro t ht;rcases ik.1 ht with rfl|ht
         · exact gn
         · rcases ik.1 ht with rfl|ht
           · exact gl
           · rcases dQ.1 ht with ht|ht
             · exact g3 t ht
             · simp at ht;subst ht;exact gr)
        rw[ax,fo, ← Nat.add_assoc, ← bQ]at this;exact this
      · have e2:n.text=⟨#[]⟩:=(f2.resolve_left (by omega)).resolve_left c7
        by_cases c8:n.kind=8
        · have hk:n.kids.length=1:=by
           unfold jT at ha;rw[af c1,af c7,ag c8]at ha;omega
          obtain ⟨b,hb⟩:∃b,n.kids=[b]:=by
           match hq:n.kids,hk with
           | [b],_=>exact⟨b,rfl⟩
          rw[hb]at h;obtain⟨j,wX,ms,ts,oJ,d,g1,rfl,rfl,g2,g3⟩:=h.last;obtain⟨d',ts',hw,g4⟩:=Oy 4 oJ d ts g3;obtain⟨Le,sm⟩:=zY (s:=⟨#[45]⟩) (by simp[xA,j3])
          have hn:n={ Nd.zero with kind:=8,kids:=[b] }:=by
           cases n;simp only at e1 e2 e3 e4 c8 hb;subst e1 e2 e3 e4 c8 hb;rfl
          have hsh:=Sh.neg j ms b ts oJ d g2 _ sm d' ts' hw;rw[← hn]at hsh
          have:=FS.snoc j wX st0 g1 (ms++[n]) _ _ _ _ hsh (by
           intro t ht;rcases ik.1 ht with rfl|ht
           · exact Le
           · exact g4 t ht)
          rw[ax,fo, ← Nat.add_assoc, ← bQ]at this;exact this
        · have hk:n.kids.length=2∧9≤n.kind∧n.kind≤19:=by
           unfold jT at ha;rw[af c1,af c7,af c8]at ha;by_cases c9:9≤n.kind∧n.kind≤19
           · rw[ag c9]at ha;omega
           · rw[af c9]at ha;omega
          obtain ⟨b,b',hb⟩:∃b b',n.kids=[b,b']:=by
           match hq:n.kids,hk.1 with
           | [b,b'],_=>exact⟨b,b',rfl⟩
          rw[hb,show st0++[b,b']=(st0++[b])++[b']by simp]at h;obtain⟨j2,akk,zI,Xb,mO,d2,k1,rfl,rfl,k2,k3⟩:=h.last;obtain⟨j,wX,ms,ts,oJ,d,g1,rfl,rfl,g2,g3⟩:=k1.last;obtain⟨o,ho,hko⟩:∃o:Nat,o<11∧n.kind=9+(o:Int):=⟨(n.kind - 9).toNat,by omega,by omega⟩;obtain⟨x1,ts',hw,g4⟩:=Oy (rk o) oJ d ts g3;obtain⟨x2,ajB,hw2,k4⟩:=Oy (rk o+1) mO d2 Xb k3
          have hin:j3.getD o ⟨#[]⟩∈xA:=by
           have hlen:o<j3.length:=ho;rw[kg,cZ hlen,Option.getD_some];exact List.mem_append_right _ (List.getElem_mem _)
          obtain⟨Le,sm⟩:=zY hin
          have hn:n={ Nd.zero with kind:=9+(o:Int),kids:=[b,b'] }:=by
           cases n;simp only at e1 e2 e3 e4 hko hb;subst e1 e2 e3 e4 hko hb;rfl
          have hsh:=Sh.op j o ho ms zI b b' ts Xb oJ mO d d2 g2 k2 _ sm x1 x2 ts' ajB hw hw2;rw[← hn]at hsh
          have:=FS.snoc j wX st0 g1 (ms++(zI++[n])) _ _ _ _ hsh (by
           intro t ht;rcases dQ.1 ht with ht|ht
           · exact g4 t ht
           · rcases ik.1 ht with rfl|ht
             · exact Le
             · exact k4 t ht)
          have e5:j+(ms++(zI++[n])).length=j+ms.length+zI.length+1:=by simp;omega
          have e6:wX++(ms++(zI++[n]))=wX++ms++zI++[n]:=by simp
          have e7:j+(ms.length+zI.length)=j+ms.length+zI.length:=by omega
          rw[e5,e6,e7]at this;exact this
   obtain⟨a,ha'⟩:=WY ns (i+1) (done++[n]) _ hfs h4 (fun m hm'=>hm m (by simp[hm']));refine⟨a, ?_⟩;rw[bQ,qj]at ha';rw[bf,show i+(ns.length+1)=i+1+ns.length by omega];exact ha'
theorem Jf (h:dA ns=true)(hm:∀n∈ns,n.num≤9223372036854775807):∃a ts rk d,Sh false 0 ns [a] ts rk d∧∀t∈ts,Tok t:=by
 obtain⟨a,ha⟩:=WY ns 0 [] [] .nil h hm;rw[gX]at ha;obtain⟨j,done,ms,ts,rk,d,h1,h2,h3,h4,h5⟩:=FS.last (st:=[]) ha;obtain⟨rfl,rfl⟩:=h1.ae7 rfl;rw[gX]at h2;subst h2;exact⟨a,ts,rk,d,h4,h5⟩
end Go.Proofs.YtbplbjmmfgjdjaaGreatDoor
