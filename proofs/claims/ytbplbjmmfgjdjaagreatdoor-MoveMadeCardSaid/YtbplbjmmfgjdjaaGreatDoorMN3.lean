import Derived.Test.YtbplbjmmfgjdjaaGreatDoorMN2
set_option maxRecDepth 100000
set_option maxHeartbeats 64000000
namespace Go.Proofs.YtbplbjmmfgjdjaaGreatDoor
open Go.RowKit
theorem Vu:Tryz.f148.results=#[.cell 2 113,.tmp 3]:=by kernel_rfl
theorem Nt:Tryz.f150.results=#[.cell 2 113,.tmp 3]:=by kernel_rfl
theorem grownBy.Qg{w w':World}{b:Nat}(h:Below w.heap.size w w'):w.grownBy w' (some b):=grownBy.below' (grownBy.fT _ _) h
theorem CU(w:World)(b:Nat):w.grownBy (w.alloc (.cells kE 113)) (some b):=grownBy.Qg ((ak _ _).alloc (aj _) _)
theorem bZ.tok{w:World}{b:Nat}{s:ByteArray}{k:Nat}(h:bZ w b s k):bZ (w.alloc (.cells kE 113)) b s k:=h.below ((ak _ _).alloc (aj _) _) h.lt
theorem ahM:sb ⟨#[35,82,69,70,33]⟩=[35,82,69,70,33]:=by decide
theorem aap (b:Nat)(s:ByteArray)(k:Nat)(w:World)(h:bZ w b s k)(_hs:s.size≤1000000)(_hk:k<s.size) :
 Calls Tryz.prog 148 #[.pointer (some ⟨b,0,none⟩)] w (pK (qC (aL s k)) b s k w):=by
 have hlt:=h.lt;have hw0:w.heap.size≠b:=by omega
 have hT:=WL b s ⟨#[35,82,69,70,33]⟩ k _ h.tok _hs (by omega) (by decide);rw[ahM]at hT;have bz:=ae (CU w b);have aT:=ae (aN.zero w)
 have hN:qC (aL s k)=if kV [35,82,69,70,33] (aL s k)=true then some ({ ah.zero with kind:=6 },5)else none:=by
  unfold qC kV;simp
 cases hq:kV [35,82,69,70,33] (aL s k)
 · rw [hq]at hN hT
   have HN:=ae hN;clear hN;have HT:=ae hT;clear hT h;go_enter Tryz.func148,Tryz.ntmps148
   go_wp2_with (first
    | (go_at_call 164;((with_reducible refine HT.o.mono ?_);rintro e w1 ⟨h1,rfl,h2⟩;have H1:=ae h1;have H2:=ae h2;clear h1 h2;have HT2:=ae (aT.o.grown H1.o hw0);obtain⟨x0,x1,x2,x3,x4,x5,x6,x7,av⟩:=HT2.o.cells;obtain⟨f0,f1,f2,f3,f4,f5,f6,f7,f8⟩:=HT2.o.bR)))
   exact bodyPost_ret (qa (HT2.o.iJ { ah.zero with kind:=6 }) _ _ false 2 3 Vu rfl rfl) rfl ⟨grownBy.kY (grownBy.trans' bz.o H1.o) (aj _) _ _ _ _ _ _ _ _ _,.inr ⟨HN.o,{ ah.zero with kind:=6 },rfl⟩⟩
 · rw [hq]at hN hT
   have HN:=ae hN;clear hN;have HT:=ae hT;clear hT h;go_enter Tryz.func148,Tryz.ntmps148
   go_wp2_with (first
    | (go_at_call 164;((with_reducible refine HT.o.mono ?_);rintro e w1 ⟨h1,rfl,h2⟩;have H1:=ae h1;have H2:=ae h2;clear h1 h2;have HT2:=ae (aT.o.grown H1.o hw0);obtain⟨x0,x1,x2,x3,x4,x5,x6,x7,av⟩:=HT2.o.cells;obtain⟨f0,f1,f2,f3,f4,f5,f6,f7,f8⟩:=HT2.o.bR)))
   exact bodyPost_ret (qa (HT2.o.iJ { ah.zero with kind:=6 }) _ _ true 2 3 Vu rfl rfl) rfl ⟨grownBy.kY (grownBy.trans' bz.o H1.o) (aj _) _ _ _ _ _ _ _ _ _,.inl ⟨_,_,HN.o,rfl,H2.o.kY hw0 _ _ _ _ _ _ _ _ _⟩⟩
theorem IX {s:ByteArray}{d:Rd}(h:iA s=some d){e:Ending}(he:oh (sb s) e):e = .returned (.tuple #[.agg #[.string d.sh,.int .i64 d.c,.int .i64 d.r,.bool d.ac,.bool d.ar],.bool true]):=by
 obtain⟨_,h2,h3⟩:=yH s d h;refine oh.text h2 ?_;rw[h3,nA];exact he
theorem IW {s:ByteArray}(h:iA s=none){e:Ending}(he:oh (sb s) e):e = .returned (.tuple #[.agg #[.string ⟨#[]⟩,.int .i64 0,.int .i64 0,.bool false,.bool false],.bool false]):=by
 rcases he with ⟨_,_,_,_,_,_,h2,h3,_⟩|⟨_,rfl⟩
 · exact absurd h3 (Da s h _ _ _ _ _ h2)
 · rfl
theorem afb {l:List Int}{x:Int}(h0:l.head? = some x)(hx:oD x=true):yD l=jL l:=by
 cases l with
 | nil=>simp at h0
 | cons y m =>
   simp at h0;subst h0;unfold yD jL;rw[Bool.eq_iff_iff];simp only[dJ,aQ,List.getD_cons_zero];constructor
   · rintro ⟨h1,h2⟩
     refine⟨h1,⟨by simp,h2⟩, ?_⟩;have:=h1 y (by simp);rw[Bool.or_eq_true]at this;rcases this with h|h
     · exact h
     · exfalso
       unfold oD isLet at hx;unfold isNum at h;simp only[Bool.or_eq_true,aQ]at hx h;omega
   · rintro⟨h1,⟨_,h2⟩,_⟩
     exact⟨h1,h2⟩
theorem Xk (l ds:List Int)(h:l.takeWhile isWord=ds):nD l=match iA (strOfNums ds)with
 | some d=>some ({ ah.zero with kind:=4,sh:=d.sh,c:=d.c,r:=d.r,ac:=d.ac,ar:=d.ar },ds.length)
 | none=>if jL ds=true then some ({ ah.zero with kind:=3,text:=strOfNums ds },ds.length)else none:=by subst h;rfl
theorem ajR (b:Nat)(s:ByteArray)(k:Nat)(w:World)(h:bZ w b s k)(_hs:s.size≤1000000)(_hk:k<s.size)(hd:oD ((s[k].toNat:Nat):Int)=true) :
 Calls Tryz.prog 150 #[.pointer (some ⟨b,0,none⟩)] w (pK (nD (aL s k)) b s k w):=by
 have hlt:=h.lt;have hw0:w.heap.size≠b:=by omega
 obtain⟨ds,hds⟩:∃ds,(aL s k).takeWhile isWord=ds:=⟨_,rfl⟩;obtain⟨D,hD⟩:∃D,strOfNums ds=D:=⟨_,rfl⟩;have hbd:Bytes ds:=fun x hx=>Nu s k x (by rw[← hds]at hx;exact(List.takeWhile_prefix _).subset hx)
 have uI:sb D=ds:=by rw[← hD];exact jN ds hbd
 have acz:D.size=ds.length:=by rw[← bC,uI]
 have hlen:ds.length≤s.size:=by rw[← hds];have h0:=BM isWord (aL s k);rw[oF]at h0;omega
 have hW:=(ajP b s k _ h.tok _hs (by omega)).mono (R':=fun e w'=>(w.alloc (.cells kE 113)).grownBy w' (some b)∧e = .returned (.string D)∧bZ w' b s (k+ds.length)) (fun e w' ⟨x1,x2,x3⟩=>⟨x1,by rw[x2,hds,hD],by rw[hds]at x3;exact x3⟩);have HW:=ae hW;clear hW h;have bz:=ae (CU w b);have aT:=ae (aN.zero w);have hN:=Xk (aL s k) ds hds;rw[hD]at hN
 have hhd:ds.head? = some ((s[k].toNat:Nat):Int):=by
  have h0:=zR s k 0 (by omega);rw[← hds];cases hr:aL s k with
  | nil=>rw[hr]at h0;simp at h0
  | cons x l =>
    rw[hr]at h0;simp at h0;have hwd:isWord x=true:=by rw[Hf,h0,hd];rfl
    rw[List.takeWhile_cons,hwd];simp[h0]
 rw[← afb hhd hd]at hN;have hmx:D.size≤1000000:=by omega
 clear hhd hd hbd hds hlen hD;cases hq:iA D with
 | some d =>
   rw[hq]at hN;have HN:=ae hN;clear hN;have hsz:d.sh.size≤12:=(yH D d hq).1;have nX:=ae (fun (e:Ending)(he:oh (sb D) e)=>IX hq he);clear hq uI;go_enter Tryz.func150,Tryz.ntmps150
   go_upto_region 4 with (first
    | (go_at_call 120;((with_reducible refine HW.o.mono ?_);rintro e w1 ⟨h1,rfl,h2⟩;have H1:=ae h1;have H2:=ae h2;clear h1 h2))
    | (go_at_call 167;((with_reducible refine(Vf D _ ?_).mono ?_);(try omega);rintro e w2 ⟨h1,h2⟩;obtain rfl:=nX.o e h1;clear h1;have H3:=ae h2;clear h2;have HL2:=ae (H2.o.below H3.o H2.o.lt);have HT2:=ae ((aT.o.grown H1.o hw0).below H3.o (aT.o.grown H1.o hw0).lt);have lH:=HT2.o.lt;have uG:w.heap.size≠w2.heap.size:=Nat.ne_of_lt lH;obtain⟨x0,x1,x2,x3,x4,x5,x6,x7,av⟩:=HT2.o.cells;obtain⟨f0,f1,f2,f3,f4,f5,f6,f7,f8⟩:=HT2.o.bR)))
   have kH:=dz.new w2 d.sh d.c d.r d.ac d.ar;have hB3:Below w2.heap.size w2 (w2.alloc (.cells #[.string d.sh,.int .i64 d.c,.int .i64 d.r,.bool d.ac,.bool d.ar] 42)):=(ak _ _).alloc (aj _) _;have yZ:=ae (HL2.o.below hB3 HL2.o.lt);have HT3:=ae (HT2.o.below hB3 HT2.o.lt);have fK:=ae (grownBy.below' (grownBy.below' (grownBy.trans' bz.o H1.o) H3.o) hB3);clear x0 x1 x2 x3 x4 x5 x6 x7 av f0 f1 f2 f3 f4 f5 f6 f7 f8 hB3;generalize w2.alloc (.cells #[.string d.sh,.int .i64 d.c,.int .i64 d.r,.bool d.ac,.bool d.ar] 42)=w3 at kH yZ HT3 fK ⊢;obtain⟨x0,x1,x2,x3,x4,x5,x6,x7,av⟩:=HT3.o.cells;obtain⟨f0,f1,f2,f3,f4,f5,f6,f7,f8⟩:=HT3.o.bR;obtain⟨y0,y1,y2,y3,y4⟩:=kH.facts;clear kH;go_wp2_with fail
   exact bodyPost_ret (qa (HT3.o.iJ { ah.zero with kind:=4,sh:=d.sh,c:=d.c,r:=d.r,ac:=d.ac,ar:=d.ar }) _ _ true 2 3 Nt rfl rfl) rfl ⟨grownBy.kY fK.o (aj _) _ _ _ _ _ _ _ _ _,.inl ⟨_,_,HN.o,rfl,yZ.o.kY hw0 _ _ _ _ _ _ _ _ _⟩⟩
 | none =>
   rw[hq]at hN;have nX:=ae (fun (e:Ending)(he:oh (sb D) e)=>IW hq he);clear hq;cases hnm:yD ds
   all_goals
    rw[hnm]at hN;have HN:=ae hN;clear hN;have xP:=ae (show yD (sb D)=_ by rw[uI,hnm]);clear hnm uI;go_enter Tryz.func150,Tryz.ntmps150
    go_upto_region 5 with (first
     | (go_at_call 120;((with_reducible refine HW.o.mono ?_);rintro e w1 ⟨h1,rfl,h2⟩;have H1:=ae h1;have H2:=ae h2;clear h1 h2))
     | (go_at_call 167;((with_reducible refine(Vf D _ ?_).mono ?_);(try omega);rintro e w2 ⟨h1,h2⟩;obtain rfl:=nX.o e h1;clear h1;have H3:=ae h2;clear h2;have HL2:=ae (H2.o.below H3.o H2.o.lt);have HT2:=ae ((aT.o.grown H1.o hw0).below H3.o (aT.o.grown H1.o hw0).lt))))
    have hB3:Below w2.heap.size w2 (w2.alloc (.cells #[.string ⟨#[]⟩,.int .i64 0,.int .i64 0,.bool false,.bool false] 42)):=(ak _ _).alloc (aj _) _;have yZ:=ae (HL2.o.below hB3 HL2.o.lt);have HT3:=ae (HT2.o.below hB3 HT2.o.lt);have fK:=ae (grownBy.below' (grownBy.below' (grownBy.trans' bz.o H1.o) H3.o) hB3);clear hB3;generalize w2.alloc (.cells #[.string ⟨#[]⟩,.int .i64 0,.int .i64 0,.bool false,.bool false] 42)=w3 at yZ HT3 fK ⊢;obtain⟨x0,x1,x2,x3,x4,x5,x6,x7,av⟩:=HT3.o.cells;obtain⟨f0,f1,f2,f3,f4,f5,f6,f7,f8⟩:=HT3.o.bR;go_wp2_with (go_at_call 168;((with_reducible refine(acU D _ ?_).mono ?_);(try omega);rintro e w4 ⟨rfl,rfl⟩;rw[xP.o]))
   · exact bodyPost_ret (qa (HT3.o.iJ { ah.zero with kind:=3,text:=D }) _ _ false 2 3 Nt rfl rfl) rfl ⟨grownBy.kY fK.o (aj _) _ _ _ _ _ _ _ _ _,.inr ⟨HN.o,{ ah.zero with kind:=3,text:=D },rfl⟩⟩
   · exact bodyPost_ret (qa (HT3.o.iJ { ah.zero with kind:=3,text:=D }) _ _ true 2 3 Nt rfl rfl) rfl ⟨grownBy.kY fK.o (aj _) _ _ _ _ _ _ _ _ _,.inl ⟨_,_,HN.o,rfl,yZ.o.kY hw0 _ _ _ _ _ _ _ _ _⟩⟩
theorem ahB {P:Program}{w:World}(t e:TypeId)(n:Nat)(cs:Array Value)(k:Nat)(v:Value)(d:TypeDesc)(h:P.underlying t=some (.array n e))(he:P.underlying e=some d)(hd:(match d with | .struct _ | .array _ _=>true|_=>false)=false)
 (hsz:(P.info? e).map (·.size)=some 1) (hk:k<n) (hv:cs[k]? = some v):(Instr.index t (.agg cs) (.int .i64 (k:Int))).run P w = .ok v w:=by
 have h1:(0:Int)≤(k:Int)∧(k:Int)<(n:Int):=by omega
 cases hq:P.info? e with
 | none=>simp[hq]at hsz
 | some i =>
   have hs':i.size=1:=by simp[hq]at hsz;exact hsz
   simp[Instr.index,run_underlying h,asIntOf,h1,sizeOf,typeInfo,hq,hs',part,isAgg,run_underlying he,hv,go_sem];cases d <;> simp_all
theorem Xm {P:Program}{ops:Array Oper}{rest:List Oper}{op:Oper}{a:Act}{w:World}{Q:Exit→Act→World→Prop}(hgd:op.guard=none)(t e:TypeId)(n:Nat)(x y:Operand)(ho:op.op = .index t x y)
 (cs:Array Value) (k:Nat) (v:Value) (d:TypeDesc) (h:P.underlying t=some (.array n e)) (he:P.underlying e=some d) (hd:(match d with | .struct _ | .array _ _=>true|_=>false)=false)
 (hsz:(P.info? e).map (·.size)=some 1) (hx:a.eval x = .agg cs) (hy:a.eval y = .int .i64 (k:Int)) (hk:k<n) (hv:cs[k]? = some v)
 (hh:wpList P ops Q rest (a.put op.dst v) w):wpList P ops Q (op :: rest) a w :=
 wpList_plain hgd fun _ hK=>by
  unfold Oper.wp execOp;simp only[ho,hx,hy,Sem.run_bind,Sem.run_pure,Result.andThen_ok,ahB t e n cs k v d h he hd hsz hk hv];exact hK _ _ hh
def nP:List (List Int):=[[60,62],[60,61],[62,61],[43],[45],[42],[47],[38],[61],[60],[62],[40],[41],[44],[58]]
def V9:List ByteArray:=[⟨#[60,62]⟩,⟨#[60,61]⟩,⟨#[62,61]⟩,⟨#[43]⟩,⟨#[45]⟩,⟨#[42]⟩,⟨#[47]⟩,⟨#[38]⟩,⟨#[61]⟩,⟨#[60]⟩,⟨#[62]⟩,⟨#[40]⟩,⟨#[41]⟩,⟨#[44]⟩,⟨#[58]⟩]
def zU:Array Value:=(V9.map Value.string).toArray
theorem aiy:∀j:Nat,j<15→∃t,V9[j]? = some t∧zU[j]? = some (.string t)∧sb t=nP.getD j []∧t.size≤2∧t=strOfNums (nP.getD j [])
 | 0,_=>⟨_,rfl,rfl,by decide,by decide,by decide +kernel⟩
 | 1,_=>⟨_,rfl,rfl,by decide,by decide,by decide +kernel⟩
 | 2,_=>⟨_,rfl,rfl,by decide,by decide,by decide +kernel⟩
 | 3,_=>⟨_,rfl,rfl,by decide,by decide,by decide +kernel⟩
 | 4,_=>⟨_,rfl,rfl,by decide,by decide,by decide +kernel⟩
 | 5,_=>⟨_,rfl,rfl,by decide,by decide,by decide +kernel⟩
 | 6,_=>⟨_,rfl,rfl,by decide,by decide,by decide +kernel⟩
 | 7,_=>⟨_,rfl,rfl,by decide,by decide,by decide +kernel⟩
 | 8,_=>⟨_,rfl,rfl,by decide,by decide,by decide +kernel⟩
 | 9,_=>⟨_,rfl,rfl,by decide,by decide,by decide +kernel⟩
 | 10,_=>⟨_,rfl,rfl,by decide,by decide,by decide +kernel⟩
 | 11,_=>⟨_,rfl,rfl,by decide,by decide,by decide +kernel⟩
 | 12,_=>⟨_,rfl,rfl,by decide,by decide,by decide +kernel⟩
 | 13,_=>⟨_,rfl,rfl,by decide,by decide,by decide +kernel⟩
 | 14,_=>⟨_,rfl,rfl,by decide,by decide,by decide +kernel⟩
 | j+15,h=>by omega
theorem Ew (a b:Int)(l:List Int):kV [a,b] l=true↔l.head? = some a∧l.tail.head? = some b:=by
 unfold kV;rw[aQ]
 match l with
 | []=>simp
 | [x]=>simp
 | x :: y :: m=>simp
theorem RG (a:Int)(l:List Int):kV [a] l=true↔l.head? = some a:=by
 unfold kV;rw[aQ]
 match l with
 | []=>simp
 | x :: m=>simp
theorem aiB:∀j:Nat,j<15→∀l:List Int,(∀q,q<j→kV (nP.getD q []) l=false)→kV (nP.getD j []) l=true→o9 l=some ({ ah.zero with kind:=5,text:=strOfNums (nP.getD j []) },(nP.getD j []).length):=by
 intro j hj l hno dh
 have hlen:lM l=(nP.getD j []).length:=by
  have hn0:∀a b q,q<j→nP.getD q []=[a,b]→¬ (l.head? = some a∧l.tail.head? = some b):=by
   intro a b q hq he h;have:=hno q hq;rw[he,(Ew a b l).2 h]at this;cases this
  cases l with
  | nil =>
    exfalso;have:∀j,j<15→nP.getD j []≠[]:=by decide
    unfold kV at dh;rw[aQ,List.take_nil]at dh;exact this j hj dh.symm
  | cons x m =>
    rw[tJ];simp only[List.head?_cons,List.tail_cons,aZ]at hn0
    match j,hj with
    | 0,_=>obtain⟨h1,h2⟩:=(Ew _ _ _).1 dh;simp at h1 h2;rw[ag (by left;exact⟨h1,.inl h2⟩)];rfl
    | 1,_=>obtain⟨h1,h2⟩:=(Ew _ _ _).1 dh;simp at h1 h2;rw[ag (by left;exact⟨h1,.inr h2⟩)];rfl
    | 2,_=>obtain⟨h1,h2⟩:=(Ew _ _ _).1 dh;simp at h1 h2;rw[ag (by right;exact⟨h1,h2⟩)];rfl
    | j + 3,hj =>
      have g0:=hn0 60 62 0 (by omega) rfl;have g1:=hn0 60 61 1 (by omega) rfl;have g2:=hn0 62 61 2 (by omega) rfl
      rw [af (by
       rintro(⟨h1,h2|h2⟩|⟨h1,h2⟩)
       · exact g0 ⟨h1,h2⟩
       · exact g1 ⟨h1,h2⟩
       · exact g2 ⟨h1,h2⟩)]
      have hx:∃a,nP.getD (j+3) []=[a]∧(a=43∨a=45∨a=42∨a=47∨a=38∨a=61∨a=60∨a=62∨a=40∨a=41∨a=44∨a=58):=by
       have:∀j,j<12→∃a,nP.getD (j+3) []=[a]∧(a=43∨a=45∨a=42∨a=47∨a=38∨a=61∨a=60∨a=62∨a=40∨a=41∨a=44∨a=58):=by
        intro j hj
        match j,hj with
        | 0,_=>exact⟨43,rfl,by omega⟩
        | 1,_=>exact⟨45,rfl,by omega⟩
        | 2,_=>exact⟨42,rfl,by omega⟩
        | 3,_=>exact⟨47,rfl,by omega⟩
        | 4,_=>exact⟨38,rfl,by omega⟩
        | 5,_=>exact⟨61,rfl,by omega⟩
        | 6,_=>exact⟨60,rfl,by omega⟩
        | 7,_=>exact⟨62,rfl,by omega⟩
        | 8,_=>exact⟨40,rfl,by omega⟩
        | 9,_=>exact⟨41,rfl,by omega⟩
        | 10,_=>exact⟨44,rfl,by omega⟩
        | 11,_=>exact⟨58,rfl,by omega⟩
        | j+12,h=>omega
       exact this j (by omega)
      obtain⟨a,ha,hor⟩:=hx;rw[ha]at dh ⊢;have h1:=(RG _ _).1 dh;simp at h1;subst h1;rw[ag hor];rfl
 have mJ:(nP.getD j []).length≠0:=by
  have:∀j,j<15→(nP.getD j []).length≠0:=by decide
  exact this j hj
 unfold o9;rw[hlen,af mJ];unfold kV at dh;rw[aQ]at dh;rw[dh]
theorem aiz (l:List Int)(hno:∀q,q<15→kV (nP.getD q []) l=false):o9 l=none:=by
 have h2:∀a b q,q<15→nP.getD q []=[a,b]→¬ (l.head? = some a∧l.tail.head? = some b):=by
  intro a b q hq he h;have:=hno q hq;rw[he,(Ew a b l).2 h]at this;cases this
 have h1:∀a q,q<15→nP.getD q []=[a]→¬ l.head? = some a:=by
  intro a q hq he h;have:=hno q hq;rw[he,(RG a l).2 h]at this;cases this
 have hz:lM l=0:=by
  cases l with
  | nil=>rfl
  | cons x m =>
    rw[tJ];simp only[List.head?_cons,List.tail_cons,aZ]at h1 h2;have g0:=h2 60 62 0 (by omega) rfl;have g1:=h2 60 61 1 (by omega) rfl;have g2:=h2 62 61 2 (by omega) rfl;have k3:=h1 43 3 (by omega) rfl;have k4:=h1 45 4 (by omega) rfl;have k5:=h1 42 5 (by omega) rfl;have k6:=h1 47 6 (by omega) rfl;have k7:=h1 38 7 (by omega) rfl;have k8:=h1 61 8 (by omega) rfl;have k9:=h1 60 9 (by omega) rfl;have k10:=h1 62 10 (by omega) rfl;have k11:=h1 40 11 (by omega) rfl;have k12:=h1 41 12 (by omega) rfl;have k13:=h1 44 13 (by omega) rfl;have k14:=h1 58 14 (by omega) rfl
    rw [af (by
     rintro(⟨h1,h2|h2⟩|⟨h1,h2⟩)
     · exact g0 ⟨h1,h2⟩
     · exact g1 ⟨h1,h2⟩
     · exact g2 ⟨h1,h2⟩),af (by omega)]
 unfold o9;rw[ag hz]
def wR(w:World):Prop:=∃ty fr,w.heap[(1:Nat)]? = some (.cells zU ty fr)
theorem wR.lt{w:World}(h:wR w):1<w.heap.size:=by obtain⟨_,_,h⟩:=h;exact(dB.1 h).1
theorem wR.grown {w w':World}{b:Nat}(h:wR w)(hg:w.grownBy w' (some b))(hb:max 8 1<b):wR w':=by
 have h0:=h.lt;obtain⟨ty,fr,h1⟩:=h;exact⟨ty,fr,by rw[hg.block _ h0 (by intro e;have:=dM e;omega)];exact h1⟩
theorem wR.below {w w':World}(h:wR w)(hb:Below w.heap.size w w'):wR w':=by
 have h0:=h.lt;obtain⟨ty,fr,h1⟩:=h;exact⟨ty,fr,by rw[hb.block _ h0];exact h1⟩
theorem yQ.below{w w':World}(h:yQ w)(hb:Below w.heap.size w w'):yQ w':=h.grown (b:=w.heap.size+8+1) (grownBy.Qg hb) (by omega)
theorem Vv:Tryz.f151.results=#[.cell 2 113,.tmp 3]:=by kernel_rfl
theorem NM:Tryz.prog.underlying 173=some (.array 15 9):=Tryz.underlying173
theorem aiA:(Tryz.prog.info? 173).map (·.size)=some zU.size:=by kernel_rfl
theorem WG:(Tryz.prog.info? 9).map (·.size)=some 1:=by kernel_rfl
theorem aiE (b:Nat)(s:ByteArray)(k:Nat)(w:World)(h:bZ w b s k)(_hs:s.size≤1000000)(_hk:k<s.size)(hsv:wR w)(hb2:max 8 1<b) :
 Calls Tryz.prog 151 #[.pointer (some ⟨b,0,none⟩)] w (pK (o9 (aL s k)) b s k w):=by
 have hlt:=h.lt;have hw0:w.heap.size≠b:=by omega
 obtain⟨ty,fr,EF⟩:=hsv.grown (CU w b) hb2;clear hsv;have bz:=ae (CU w b);have aT:=ae (aN.zero w);have xO:=ae h.tok;clear h;have J9:=ae EF;clear EF;go_enter Tryz.func151,Tryz.ntmps151;go_upto_region 1 with (fail)
 refine wp_region_lit ?_;refine wpList_load_row rfl 173 (.global 1) rfl 1 rfl ty zU fr _ J9.o NM rfl aiA ?_;go_wp2_with fail
 go_loopw [7] (fun i wr=>∃j:Nat,j≤15∧i = .int .i64 j∧Hid (∀q,q<j→kV (nP.getD q []) (aL s k)=false)∧Hid (bZ wr b s k)∧Hid ((w.alloc (.cells kE 113)).grownBy wr (some b)))
  (fun i _=>15 - (intOf i).toNat)
 case atStart=>exact⟨0,by omega,rfl,ae (by intro q hq;omega),xO,ae (grownBy.fT _ _)⟩
 case round =>
  obtain⟨j,hj,rfl,dR,HR,HG⟩:=hrel;by_cases hlt:j<15
  · have hji:(j:Int)<15:=by omega
    obtain⟨t,ht1,ht2,ht3,ht4,Sw⟩:=aiy j hlt;have hT:=WL b s t k wr HR.o _hs (by omega) (by omega);rw[ht3]at hT;have HT2:=ae ht2;have HT3:=ae ht3;have YF:=ae Sw;clear ht1 ht2 ht3 Sw;cases hq:kV (nP.getD j []) (aL s k)
    · rw [hq]at hT
      have HT:=ae hT;have HQ:=ae hq;clear hT hq;go_upto_region 3 with (fail)
      refine wp_region_lit ?_;refine Xm rfl 173 9 15 (.tmp 6) (.tmp 7) rfl zU j (.string t) _ NM Tryz.underlying9 rfl WG rfl rfl hlt HT2.o ?_;go_wp2_with (go_at_call 164;((with_reducible refine HT.o.mono ?_);rintro e w1 ⟨h1,rfl,h2⟩;have H1:=ae h1;have H2:=ae h2;clear h1 h2))
      go_roundw
      case rel =>
       refine⟨j+1,by omega,by go_num,ae ?_,H2,ae (grownBy.trans' HG.o H1.o)⟩;intro q hq;by_cases hqj:q<j
       · exact dR.o q hqj
       · rw[show q=j from by omega];exact HQ.o
      case measure=>simp[intOf];omega
    · rw[hq]at hT
      have HT:=ae hT;clear hT;have hsz:t.size=(nP.getD j []).length:=by rw[← HT3.o,bC]
      have hN:=aiB j hlt (aL s k) dR.o hq;rw[← YF.o, ← hsz]at hN;have HN:=ae hN;clear hN hq hsz;go_upto_region 3 with (fail)
      refine wp_region_lit ?_;refine Xm rfl 173 9 15 (.tmp 6) (.tmp 7) rfl zU j (.string t) _ NM Tryz.underlying9 rfl WG rfl rfl hlt HT2.o ?_;go_wp2_with (go_at_call 164;((with_reducible refine HT.o.mono ?_);rintro e w1 ⟨h1,rfl,h2⟩;have H1:=ae (grownBy.trans' HG.o h1);have H2:=ae h2;clear h1 h2;have HT2:=ae (aT.o.grown H1.o hw0);obtain⟨x0,x1,x2,x3,x4,x5,x6,x7,av⟩:=HT2.o.cells;obtain⟨f0,f1,f2,f3,f4,f5,f6,f7,f8⟩:=HT2.o.bR))
      exact bodyPost_ret (qa (HT2.o.iJ { ah.zero with kind:=5,text:=t }) _ _ true 2 3 Vv rfl rfl) rfl ⟨grownBy.kY (grownBy.trans' bz.o H1.o) (aj _) _ _ _ _ _ _ _ _ _,.inl ⟨_,_,HN.o,rfl,H2.o.kY hw0 _ _ _ _ _ _ _ _ _⟩⟩
  · have hji:¬ (j:Int)<15:=by omega
    have HN:=ae (aiz (aL s k) (fun q hq=>dR.o q (by omega)));have HT2:=ae (aT.o.grown HG.o hw0);obtain⟨x0,x1,x2,x3,x4,x5,x6,x7,av⟩:=HT2.o.cells;obtain⟨f0,f1,f2,f3,f4,f5,f6,f7,f8⟩:=HT2.o.bR;go_wp2_with fail
    exact bodyPost_ret (qa (HT2.o.iJ ah.zero) _ _ false 2 3 Vv rfl rfl) rfl ⟨grownBy.kY (grownBy.trans' bz.o HG.o) (aj _) _ _ _ _ _ _ _ _ _,.inr ⟨HN.o,ah.zero,rfl⟩⟩
def nZ(s:ByteArray)(k p:Nat)(xs:List Int):Prop:=eU (aL s (k+1))=(eU (aL s p)).map fun q=>(xs++q.1,p - (k+1)+q.2)
theorem nO (s:ByteArray)(p:Nat)(h:p<s.size):aL s p=((s[p].toNat:Nat):Int) :: aL s (p+1):=by
 unfold aL;rw[List.drop_eq_getElem_cons (by rw[bC];exact h)];congr 1;have:=qN s p h;rw[cZ (by rw[bC];exact h)]at this;exact dM this
theorem Fb (s:ByteArray)(p:Nat)(h:s.size≤p):aL s p=[]:=by
 apply kM;rw[oF];omega
theorem Va {s:ByteArray}{k p:Nat}{xs:List Int}(h:nZ s k p xs)(hp:s.size≤p):lK (aL s (k+1))=none:=by
 unfold nZ at h;unfold lK;rw[h,Fb s p hp];rfl
theorem Vb {s:ByteArray}{k p:Nat}{xs:List Int}(h:nZ s k p xs)(hp:p<s.size)(hc:((s[p].toNat:Nat):Int)<32):lK (aL s (k+1))=none:=by
 unfold nZ at h;unfold lK;rw[h,nO s p hp,uR,ag hc];rfl
theorem Vd {s:ByteArray}{k p:Nat}{xs:List Int}{a:Int}(h:nZ s k p xs)(hk:k+1≤p)(hp:p<s.size)(ha:((s[p].toNat:Nat):Int)=a)(h1:¬ a<32)(h2:¬ a=34):nZ s k (p+1) (xs++[a]):=by
 unfold nZ at h ⊢;rw[h,nO s p hp,uR,ha,af h1,ag h2];cases eU (aL s (p+1))with
 | none=>rfl
 | some q =>
   simp only[jq,aZ,bH,bQ,dE,gX,true_and];omega
theorem Ve {s:ByteArray}{k p:Nat}{xs:List Int}(h:nZ s k p xs)(hk:k+1≤p)(hp:p<s.size)(ha:((s[p].toNat:Nat):Int)=34)(hp2:p+1<s.size)(ha2:((s[p+1].toNat:Nat):Int)=34):nZ s k (p+1+1) (xs++[34]):=by
 unfold nZ at h ⊢;rw[h,nO s p hp,nO s (p+1) hp2,uR,ha,ha2,af (by omega),af (by omega)];simp only[if_true];cases eU (aL s (p+1+1))with
 | none=>rfl
 | some q =>
   simp only[jq,aZ,bH,bQ,dE,gX,true_and];omega
theorem IE {s:ByteArray}{k p:Nat}{xs:List Int}(h:nZ s k p xs)(hk:k+1≤p)(hp:p<s.size)(ha:((s[p].toNat:Nat):Int)=34)(h2:∀h:p+1<s.size,¬ ((s[p+1].toNat:Nat):Int)=34) :
 lK (aL s (k+1))=some ({ ah.zero with kind:=2,text:=strOfNums xs },p+1 - k):=by
 unfold nZ at h
 have hq:eU (aL s p)=some ([],1):=by
  rw[nO s p hp,uR,ha,af (by omega),af (by omega)];by_cases hp2:p+1<s.size
  · rw[nO s (p+1) hp2]
    simp only[af (h2 hp2)]
  · rw[Fb s (p+1) (by omega)]
 unfold lK;rw[h,hq];simp only[jq,gL,aZ,bH,true_and];omega
theorem grownBy.Qf {a w w':World}{r:Option Nat}(h:a.grownBy w r)(k:Below (a.heap.size+1) w w'):a.grownBy w' r :=
 ⟨k.os.trans h.os,k.tape.trans h.tape,k.output.trans h.output,bN h.size k.size,fun j hj hr=>(k.block j (by omega)).trans (h.block j hj hr)⟩
theorem IL:Tryz.f147.results=#[.cell 2 113,.tmp 3]:=by kernel_rfl
theorem agn (b:Nat)(s:ByteArray)(k:Nat)(w:World)(h:bZ w b s k)(_hs:s.size≤1000000)(_hk:k<s.size) :
 Calls Tryz.prog 147 #[.pointer (some ⟨b,0,none⟩)] w (pK (lK (aL s (k+1))) b s k w):=by
 have hlt:=h.lt;have hw0:w.heap.size≠b:=by omega
 have Et:b<w.heap.size+1:=by omega
 obtain⟨c0,c1⟩:=h.tok.facts;have f1:=h.tok.frozen 1;have Rk:w.grownBy ((w.setCell ⟨b,1,none⟩ (.int .i64 ((k:Int)+1))).alloc (.cells kE 113)) (some b):=grownBy.below' (grownBy.gU (grownBy.fT _ _) _ _) ((ak _ _).alloc (aj _) _);have bz:=ae Rk;clear Rk;have Lp:=aN.zero (w.setCell ⟨b,1,none⟩ (.int .i64 ((k:Int)+1)));rw[show(w.setCell ⟨b,1,none⟩ (.int .i64 ((k:Int)+1))).heap.size=w.heap.size by simp]at Lp;have aT:=ae Lp;clear Lp;have xO:=ae (h.yJ.tok);clear h;go_enter Tryz.func147,Tryz.ntmps147;go_wp2_with fail
 clear c0 c1 f1
 go_loopw [4] (fun v wr=>∃(p:Nat)(xs:List Int),k+1≤p∧p≤s.size∧xs.length≤p∧Hid (Bytes xs)∧Hid (nZ s k p xs)∧Hid (bZ wr b s p)∧Hid (qz wr (w.heap.size+1) v xs)∧Hid (aN wr w.heap.size ah.zero)∧Hid (w.grownBy wr (some b)))
  (fun _ wr=>nN b s.size wr)
 case atStart =>
  refine⟨k+1,[],by omega,by omega,by simp,ae Bytes.nil,ae ?_,xO,ae (Own.nil _ _ _ _),aT,bz⟩;unfold nZ;cases eU (aL s (k+1))with
  | none=>rfl
  | some q=>simp
 case round =>
  obtain⟨p,xs,hkp,hps,hxl,xJ,HQ,HR,HO,HT,HG⟩:=hrel;clear bz aT xO;have RX:=HR.o.nN s.size;have y7:=ae RX;clear RX;obtain⟨c0,c1⟩:=HR.o.facts;have f1:=HR.o.frozen 1;by_cases hlt:p<s.size
  · have lH : (p:Int)<(s.size:Int):=by omega
    obtain⟨a,ha⟩:∃a:Int,(s[p].toNat:Int)=a:=⟨_,rfl⟩;have ha1:0≤a∧a≤255:=by have:=s[p].toNat_lt;omega
    by_cases yw:a<32
    · have HN:=ae (Vb HQ.o hlt (by rw[ha];exact yw))
      go_wp2_with fail
      go_quiet (fail)
      have HR1:=ae (HR.o.drewN nq);have fZ:=ae (HO.o.drewN nq);have HT1:=ae (HT.o.drewN nq);have nT:=ae (grownBy.fO HG.o nq);generalize wr.drewN nq=w1 at HR1 fZ HT1 nT ⊢;clear c0 c1 f1 HR HO HT HG;obtain⟨c0,c1⟩:=HR1.o.facts;have f1:=HR1.o.frozen 1;go_wp2_with fail
      go_quiet (fail)
      have HR2:=ae (HR1.o.drewN nq);have nW:=ae (fZ.o.drewN nq);have HT2:=ae (HT1.o.drewN nq);have HG2:=ae (grownBy.fO nT.o nq);generalize w1.drewN nq=w2 at HR2 nW HT2 HG2 ⊢;clear c0 c1 f1 HR1 fZ HT1 nT;obtain⟨c0,c1⟩:=HR2.o.facts;have f1:=HR2.o.frozen 1;obtain⟨x0,x1,x2,x3,x4,x5,x6,x7,av⟩:=HT2.o.cells;obtain⟨g0,g1,g2,g3,g4,g5,g6,g7,g8⟩:=HT2.o.bR;go_wp2_with fail
      exact bodyPost_ret (qa (HT2.o.iJ ah.zero) _ _ false 2 3 IL rfl rfl) rfl ⟨grownBy.kY HG2.o (aj _) _ _ _ _ _ _ _ _ _,.inr ⟨HN.o,ah.zero,rfl⟩⟩
    · by_cases h34:a=34
      · have AY:(a == 34)=true:=bB.2 h34
        obtain⟨q,hq⟩:∃q:Nat,p+1=q:=⟨_,rfl⟩;go_wp2_with fail
        go_quiet (fail)
        have HR1:=ae (HR.o.drewN nq);have fZ:=ae (HO.o.drewN nq);have HT1:=ae (HT.o.drewN nq);have nT:=ae (grownBy.fO HG.o nq);generalize wr.drewN nq=w1 at HR1 fZ HT1 nT ⊢;clear c0 c1 f1 HR HO HT HG;obtain⟨c0,c1⟩:=HR1.o.facts;have f1:=HR1.o.frozen 1;go_wp2_with fail
        go_quiet (fail)
        have HR2:=ae (HR1.o.drewN nq);have nW:=ae (fZ.o.drewN nq);have HT2:=ae (HT1.o.drewN nq);have HG2:=ae (grownBy.fO nT.o nq);generalize w1.drewN nq=w2 at HR2 nW HT2 HG2 ⊢;clear c0 c1 f1 HR1 fZ HT1 nT;obtain⟨c0,c1⟩:=HR2.o.facts;have f1:=HR2.o.frozen 1;go_upto_region 10 with (fail)
        have HR3:=ae (HR2.o.yJ);have gm:=ae (Own.other nW.o (grownBy.gU (grownBy.fT _ _) _ _) Et:qz (w2.setCell ⟨b,1,none⟩ (.int .i64 ((p:Int)+1))) _ _ _);have HT3:=ae (HT2.o.grown (grownBy.gU (grownBy.fT _ _) 1 (.int .i64 ((p:Int)+1))) hw0);have fK:=ae (grownBy.gU HG2.o 1 (.int .i64 ((p:Int)+1)));generalize w2.setCell ⟨b,1,none⟩ (.int .i64 ((p:Int)+1))=w3 at HR3 gm HT3 fK ⊢;clear c0 c1 f1 HR2 nW HT2 HG2;obtain⟨c0,c1⟩:=HR3.o.facts;have f1:=HR3.o.frozen 1;have Pf:=ae (show bZ w3 b s q by rw[← hq];exact HR3.o);clear c0 c1 HR3;have HR3:=Pf;clear Pf;obtain⟨c0,c1⟩:=HR3.o.facts;have D9:=ae hq;by_cases Cz:q<s.size
        · have ab5:((q:Int) == (s.size:Int))=false:=aA.2 (by omega)
          have zA:(q:Int)<(s.size:Int):=by omega
          obtain⟨a2,ha2⟩:∃a2:Int,(s[q].toNat:Int)=a2:=⟨_,rfl⟩;have abl:0≤a2∧a2≤255:=by have:=s[q].toNat_lt;omega
          by_cases ym:a2=34
          · have Ls:(a2 == 34)=true:=bB.2 ym
            have mF:=ae (show nZ s k (q+1) (xs++[34])by subst hq;exact Ve HQ.o hkp hlt (by rw[ha,h34]) Cz (by rw[ha2,ym]));clear HQ hq;go_quiet (fail)
            have HR4:=ae (HR3.o.drewN nq);have mg:=ae (gm.o.drewN nq);have qx:=ae (HT3.o.drewN nq);have oO:=ae (grownBy.fO fK.o nq);generalize w3.drewN nq=w4 at HR4 mg qx oO ⊢;clear c0 c1 f1 HR3 gm HT3 fK;obtain⟨c0,c1⟩:=HR4.o.facts;have f1:=HR4.o.frozen 1;go_wp2_with (at_builtin;refine oL Elem.u8 (aJ .u8) rfl (.tmp 76) (.tmp 78) rfl (w.heap.size+1) _ _ rfl (mg.o.alloc _) ⟨_,0,none⟩ 1 1 [34] rfl rfl ?_ ?_ ?_ ?_ ?_;exact gD _ _ _ rfl;omega;(unfold maxLen;omega);(have:=qx.o.lt;simp <;> omega);intro v' oM h1 h2;have qp:=ae h1;have lC:=ae (((ak (w.heap.size+1) _).alloc (by have:=qx.o.lt;omega) _).trans h2);clear h1 h2;have xV:=ae (HR4.o.below lC.o Et);have Aq:=ae (qx.o.below lC.o (Nat.lt_succ_self _));have JJ:=ae (grownBy.Qf oO.o lC.o);clear HR4 mg qx oO c0 c1 f1;obtain⟨c0,c1⟩:=xV.o.facts;have f1:=xV.o.frozen 1)
            go_roundw
            case rel =>
             refine⟨q+1,xs++[34],by have:=D9.o;omega,by omega,by have:=D9.o;simp;omega,ae (xJ.o.append (by intro x hx;simp at hx;omega)),mF,ae xV.o.yJ,ae (Own.other qp.o (grownBy.gU (grownBy.fT _ _) _ _) Et),ae (Aq.o.grown (grownBy.gU (grownBy.fT _ _) _ _) hw0),ae (grownBy.gU JJ.o _ _)⟩
            case measure =>
             have h1:=xV.o.yJ.nN s.size;have h2:=D9.o;rw[y7.o];exact Nat.lt_of_le_of_lt (Nat.le_of_eq h1) (by omega)
          · have Ls:(a2 == 34)=false:=aA.2 ym
            have HN:=ae (show lK (aL s (k+1))=some ({ ah.zero with kind:=2,text:=strOfNums xs },q - k)by subst hq;exact IE HQ.o hkp hlt (by rw[ha,h34]) (fun h=>by rw[ha2];exact ym));clear HQ hq;go_quiet (fail)
            have HR4:=ae (HR3.o.drewN nq);have mg:=ae (gm.o.drewN nq);have qx:=ae (HT3.o.drewN nq);have oO:=ae (grownBy.fO fK.o nq);generalize w3.drewN nq=w4 at HR4 mg qx oO ⊢;clear c0 c1 f1 HR3 gm HT3 fK;obtain⟨c0,c1⟩:=HR4.o.facts;have f1:=HR4.o.frozen 1;have Lv:=Dj mg.o;obtain⟨x0,x1,x2,x3,x4,x5,x6,x7,av⟩:=qx.o.cells;obtain⟨g0,g1,g2,g3,g4,g5,g6,g7,g8⟩:=qx.o.bR;go_wp2_with fail
            exact bodyPost_ret (qa (qx.o.iJ { ah.zero with kind:=2,text:=strOfNums xs }) _ _ true 2 3 IL rfl rfl) rfl ⟨grownBy.kY oO.o (aj _) _ _ _ _ _ _ _ _ _,.inl ⟨_,_,HN.o,rfl,by rw[show k+(q - k)=q from by have:=D9.o;omega];exact HR4.o.kY hw0 _ _ _ _ _ _ _ _ _⟩⟩
        · have ab5:((q:Int) == (s.size:Int))=true:=bB.2 (by omega)
          have HN:=ae (show lK (aL s (k+1))=some ({ ah.zero with kind:=2,text:=strOfNums xs },q - k)by subst hq;exact IE HQ.o hkp hlt (by rw[ha,h34]) (fun h=>absurd h Cz));clear HQ hq;go_quiet (fail)
          have HR4:=ae (HR3.o.drewN nq);have mg:=ae (gm.o.drewN nq);have qx:=ae (HT3.o.drewN nq);have oO:=ae (grownBy.fO fK.o nq);generalize w3.drewN nq=w4 at HR4 mg qx oO ⊢;clear c0 c1 f1 HR3 gm HT3 fK;obtain⟨c0,c1⟩:=HR4.o.facts;have f1:=HR4.o.frozen 1;have Lv:=Dj mg.o;obtain⟨x0,x1,x2,x3,x4,x5,x6,x7,av⟩:=qx.o.cells;obtain⟨g0,g1,g2,g3,g4,g5,g6,g7,g8⟩:=qx.o.bR;go_wp2_with fail
          exact bodyPost_ret (qa (qx.o.iJ { ah.zero with kind:=2,text:=strOfNums xs }) _ _ true 2 3 IL rfl rfl) rfl ⟨grownBy.kY oO.o (aj _) _ _ _ _ _ _ _ _ _,.inl ⟨_,_,HN.o,rfl,by rw[show k+(q - k)=q from by have:=D9.o;omega];exact HR4.o.kY hw0 _ _ _ _ _ _ _ _ _⟩⟩
      · have AY:(a == 34)=false:=aA.2 h34
        have mF:=ae (Vd HQ.o hkp hlt ha yw h34);clear HQ;go_wp2_with fail
        go_quiet (fail)
        have HR1:=ae (HR.o.drewN nq);have fZ:=ae (HO.o.drewN nq);have HT1:=ae (HT.o.drewN nq);have nT:=ae (grownBy.fO HG.o nq);generalize wr.drewN nq=w1 at HR1 fZ HT1 nT ⊢;clear c0 c1 f1 HR HO HT HG;obtain⟨c0,c1⟩:=HR1.o.facts;have f1:=HR1.o.frozen 1;go_wp2_with fail
        go_quiet (fail)
        have HR2:=ae (HR1.o.drewN nq);have nW:=ae (fZ.o.drewN nq);have HT2:=ae (HT1.o.drewN nq);have HG2:=ae (grownBy.fO nT.o nq);generalize w1.drewN nq=w2 at HR2 nW HT2 HG2 ⊢;clear c0 c1 f1 HR1 fZ HT1 nT;obtain⟨c0,c1⟩:=HR2.o.facts;have f1:=HR2.o.frozen 1;go_wp2_with (at_builtin;refine oL Elem.u8 (aJ .u8) rfl (.tmp 76) (.tmp 78) rfl (w.heap.size+1) _ _ rfl (nW.o.alloc _) ⟨_,0,none⟩ 1 1 [a] rfl rfl ?_ ?_ ?_ ?_ ?_;exact gD _ _ _ rfl;omega;(unfold maxLen;omega);(have:=HT2.o.lt;simp <;> omega);intro v' oM h1 h2;have qp:=ae h1;have lC:=ae (((ak (w.heap.size+1) _).alloc (by have:=HT2.o.lt;omega) _).trans h2);clear h1 h2;have xV:=ae (HR2.o.below lC.o Et);have Aq:=ae (HT2.o.below lC.o (Nat.lt_succ_self _));have JJ:=ae (grownBy.Qf HG2.o lC.o);clear HR2 nW HT2 HG2 c0 c1 f1;obtain⟨c0,c1⟩:=xV.o.facts;have f1:=xV.o.frozen 1)
        go_roundw
        case rel =>
         refine⟨p+1,xs++[a],by omega,by omega,by simp;omega,ae (xJ.o.append (by intro x hx;simp at hx;omega)),mF,ae xV.o.yJ,ae (Own.other qp.o (grownBy.gU (grownBy.fT _ _) _ _) Et),ae (Aq.o.grown (grownBy.gU (grownBy.fT _ _) _ _) hw0),ae (grownBy.gU JJ.o _ _)⟩
        case measure =>
         have h1:=xV.o.yJ.nN s.size;rw[y7.o];exact Nat.lt_of_le_of_lt (Nat.le_of_eq h1) (by omega)
  · have lH:¬ (p:Int)<(s.size:Int):=by omega
    have HN:=ae (Va HQ.o (by omega));go_wp2_with fail
    go_quiet (fail)
    have HR1:=ae (HR.o.drewN nq);have fZ:=ae (HO.o.drewN nq);have HT1:=ae (HT.o.drewN nq);have nT:=ae (grownBy.fO HG.o nq);generalize wr.drewN nq=w1 at HR1 fZ HT1 nT ⊢;clear c0 c1 f1 HR HO HT HG;obtain⟨c0,c1⟩:=HR1.o.facts;have f1:=HR1.o.frozen 1;obtain⟨x0,x1,x2,x3,x4,x5,x6,x7,av⟩:=HT1.o.cells;obtain⟨g0,g1,g2,g3,g4,g5,g6,g7,g8⟩:=HT1.o.bR;go_wp2_with fail
    exact bodyPost_ret (qa (HT1.o.iJ ah.zero) _ _ false 2 3 IL rfl rfl) rfl ⟨grownBy.kY nT.o (aj _) _ _ _ _ _ _ _ _ _,.inr ⟨HN.o,ah.zero,rfl⟩⟩
structure Vars (w:World):Prop where
 err:yQ w
 sig:wR w
theorem Vars.grown{w w':World}{b:Nat}(h:Vars w)(hg:w.grownBy w' (some b))(hb:max 8 1<b):Vars w':=⟨h.err.grown hg (by omega),h.sig.grown hg hb⟩
theorem Vars.below{w w':World}(h:Vars w)(hb:Below w.heap.size w w'):Vars w':=⟨h.err.below hb,h.sig.below hb⟩
theorem m_num:∀args (v:World),(callFunc 146 args).run Tryz.prog v = .ok (.enter 146 args) v:=Go.Proofs.enters_of Tryz.func146 (by kernel_rfl) rfl
theorem aeb:∀args (v:World),(callFunc 147 args).run Tryz.prog v = .ok (.enter 147 args) v:=Go.Proofs.enters_of Tryz.func147 (by kernel_rfl) rfl
theorem aea:∀args (v:World),(callFunc 148 args).run Tryz.prog v = .ok (.enter 148 args) v:=Go.Proofs.enters_of Tryz.func148 (by kernel_rfl) rfl
theorem aed:∀args (v:World),(callFunc 150 args).run Tryz.prog v = .ok (.enter 150 args) v:=Go.Proofs.enters_of Tryz.func150 (by kernel_rfl) rfl
theorem aec:∀args (v:World),(callFunc 151 args).run Tryz.prog v = .ok (.enter 151 args) v:=Go.Proofs.enters_of Tryz.func151 (by kernel_rfl) rfl
theorem aeu (b:Nat)(s:ByteArray)(k:Nat)(_hs:s.size≤1000000)(_hk:k<s.size)(hb2:max 8 1<b)(a:Int)(ha:((s[k].toNat:Nat):Int)=a) :
 (∀args (v:World),(callFunc (qI a) args).run Tryz.prog v = .ok (.enter (qI a) args) v) ∧
 (∀w,bZ w b s k→Vars w→Calls Tryz.prog (qI a) #[.pointer (some ⟨b,0,none⟩)] w (pK (fJ (aL s k)) b s k w)):=by
 have hc:=nO s k _hk;rw[ha]at hc;have ht:=rX a (aL s (k+1));rw[← hc]at ht;rw[ht];cases hn:isNum a
 · rw [af (by simp)]
   by_cases h34:a=34
   · rw[Ua hn h34,ag h34]
     exact⟨aeb,fun w h _=>agn b s k w h _hs _hk⟩
   · rw [af h34]
     by_cases h35:a=35
     · rw[TY hn h34 h35,ag h35]
       exact⟨aea,fun w h _=>aap b s k w h _hs _hk⟩
     · rw [af h35]
       cases hb:oD a
       · rw[Ub hn h34 h35 hb,af (by unfold oD at hb;simpa using hb)]
         exact⟨aec,fun w h hv=>aiE b s k w h _hs _hk hv.sig hb2⟩
       · rw[Uc hn h34 h35 hb,ag (by unfold oD at hb;simpa using hb)]
         exact⟨aed,fun w h _=>ajR b s k w h _hs _hk (by rw[ha];exact hb)⟩
 · rw[T9 hn,ag rfl]
   exact⟨m_num,fun w h hv=>aft b s k w h _hs _hk (by rw[ha];exact hn) hv.err (by omega)⟩
theorem pK.lit {o:Option (ah × Nat)}{b:Nat}{s:ByteArray}{k:Nat}{w w':World}{e:Ending}(h:pK o b s k w e w') :
 w.grownBy w' (some b)∧((∃t n,o=some (t,n)∧e = .returned (.tuple #[.agg (tA t (.int .i64 t.pos)),.bool true])∧bZ w' b s (k+n))∨(o=none∧∃t:ah,e = .returned (.tuple #[.agg (tA t (.int .i64 t.pos)),.bool false]))):=h
theorem Vw:Tryz.f91.results=#[.cell 2 113,.tmp 3]:=by kernel_rfl
theorem ajv (b:Nat)(s:ByteArray)(k:Nat)(w:World)(h:bZ w b s k)(_hs:s.size≤1000000)(_hk:k<s.size)(hb2:max 8 1<b)(hv:Vars w) :
 Calls Tryz.prog 91 #[.pointer (some ⟨b,0,none⟩)] w (pK ((fJ (aL s k)).map fun q=>(q.1.goto k,q.2)) b s k w):=by
 have hlt:=h.lt;have hw0:w.heap.size≠b:=by omega
 obtain⟨a,ha⟩:∃a:Int,(s[k].toNat:Int)=a:=⟨_,rfl⟩;have ha1:0≤a∧a≤255:=by have:=s[k].toNat_lt;omega
 obtain⟨hen,vV⟩:=aeu b s k _hs _hk hb2 a ha;have hmo:=fun w=>aet a ha1.1 ha1.2 w
 obtain⟨F,hF⟩:∃F,qI a=F:=⟨_,rfl⟩;rw[hF]at hen vV;simp only[hF]at hmo;have DX:=ae hmo;clear hmo hF;have HM:=ae (vV _ h.tok (hv.grown (CU w b) hb2));clear vV hv;have bz:=ae (CU w b);have aT:=ae (aN.zero w);obtain⟨c0,c1⟩:=h.tok.facts;clear h;have hk2:(k:Int)<(s.size:Int):=by omega
 obtain⟨o,ho⟩:∃o,fJ (aL s k)=o:=⟨_,rfl⟩;rw[ho]at HM ⊢;clear ho;go_enter Tryz.func91,Tryz.ntmps91;go_wp2_with (go_at_call 122;((with_reducible refine(DX.o _).mono ?_);rintro e w1 ⟨rfl,rfl⟩))
 refine HM.o.mono ?_;intro e w1 he;obtain⟨h1,⟨t,n,rfl,rfl,h2⟩|⟨rfl,t,rfl⟩⟩:=he.lit
 · have H1:=ae h1;have H2:=ae h2;clear h1 h2 he
   have hB3:Below w1.heap.size w1 (w1.alloc (.cells (tA t (.int .i64 (k:Int))) 113)):=(ak _ _).alloc (aj _) _;have hT1:=aT.o.grown H1.o hw0;have HT3:=ae (hT1.below hB3 hT1.lt);have aM:aN (w1.alloc (.cells (tA t (.int .i64 (k:Int))) 113)) w1.heap.size (t.goto k):=aN.new w1 (t.goto k);have fK:=ae (grownBy.below' (grownBy.trans' bz.o H1.o) hB3);have yZ:=ae (H2.o.below hB3 H2.o.lt);have uG:w.heap.size≠w1.heap.size:=Nat.ne_of_lt hT1.lt;clear hB3 hT1 DX HM c0 c1;go_upto_region 4 with (fail)
   generalize w1.alloc (.cells (tA t (.int .i64 (k:Int))) 113)=w3 at HT3 aM fK yZ ⊢;obtain⟨x0,x1,x2,x3,x4,x5,x6,x7,av⟩:=HT3.o.cells;obtain⟨f0,f1,f2,f3,f4,f5,f6,f7,f8⟩:=HT3.o.bR;obtain⟨y0,y1,y2,y3,y4,dH,y6,ll,nE⟩:=aM.cells;clear aM;simp only[ah.goto]at y0 y1 y2 y3 y4 dH y6 ll nE;go_wp2_with fail
   exact bodyPost_ret (qa (HT3.o.iJ (t.goto k)) _ _ true 2 3 Vw rfl rfl) rfl ⟨grownBy.kY fK.o (aj _) _ _ _ _ _ _ _ _ _,.inl ⟨_,_,rfl,rfl,yZ.o.kY hw0 _ _ _ _ _ _ _ _ _⟩⟩
 · have H1:=ae h1;clear h1 he
   have hB3:Below w1.heap.size w1 (w1.alloc (.cells (tA t (.int .i64 (k:Int))) 113)):=(ak _ _).alloc (aj _) _;have hT1:=aT.o.grown H1.o hw0;have HT3:=ae (hT1.below hB3 hT1.lt);have aM:aN (w1.alloc (.cells (tA t (.int .i64 (k:Int))) 113)) w1.heap.size (t.goto k):=aN.new w1 (t.goto k);have fK:=ae (grownBy.below' (grownBy.trans' bz.o H1.o) hB3);have uG:w.heap.size≠w1.heap.size:=Nat.ne_of_lt hT1.lt;clear hB3 hT1 DX HM c0 c1;go_upto_region 4 with (fail)
   generalize w1.alloc (.cells (tA t (.int .i64 (k:Int))) 113)=w3 at HT3 aM fK ⊢;obtain⟨x0,x1,x2,x3,x4,x5,x6,x7,av⟩:=HT3.o.cells;obtain⟨f0,f1,f2,f3,f4,f5,f6,f7,f8⟩:=HT3.o.bR;obtain⟨y0,y1,y2,y3,y4,dH,y6,ll,nE⟩:=aM.cells;clear aM;simp only[ah.goto]at y0 y1 y2 y3 y4 dH y6 ll nE;go_wp2_with fail
   exact bodyPost_ret (qa (HT3.o.iJ (t.goto k)) _ _ false 2 3 Vw rfl rfl) rfl ⟨grownBy.kY fK.o (aj _) _ _ _ _ _ _ _ _ _,.inr ⟨rfl,t.goto k,rfl⟩⟩
def AP:Enc ah 9:={ f:=fun t=>(qh t).toList,len:=fun _=>rfl,one:=fun t u hu=>ajr t u hu }
theorem Elem.tok:∃n,n≤100∧Elem Tryz.prog 105 113 9 n:=⟨80,by omega,Tryz.underlying105,⟨.agg kE,by kernel_rfl,rfl⟩,by decide⟩
abbrev sO(w:World)(base:Nat)(v:Value)(ts:List ah):Prop:=Own AP 113 w base v ts
def l6(s:ByteArray)(p:Nat):Option (List ah):=fE (aL s p).length p (aL s p)
theorem Tx(s:ByteArray):gT (sb s)=l6 s 0:=rfl
theorem TB (s:ByteArray)(p:Nat)(h:s.size≤p):l6 s p=some [ah.zero.goto p]:=by
 unfold l6;rw[Fb s p h];unfold fE;rfl
theorem TA (s:ByteArray)(p:Nat)(h:p<s.size)(ha:((s[p].toNat:Nat):Int)=32):l6 s p=l6 s (p+1):=by
 unfold l6;rw[nO s p h,ha,bf,tq,ag rfl]
theorem Mw (s:ByteArray):∀(m p:Nat),(∀x∈(aL s p).take m,oZ x=true)→p+m≤s.size→l6 s p=l6 s (p+m)
 | 0,_,_,_=>rfl
 | m + 1,p,h,hm=>by
   have hp:p<s.size:=by omega
   rw[nO s p hp]at h
   have h0:((s[p].toNat:Nat):Int)=32:=by
    have:=h ((s[p].toNat:Nat):Int) (by simp);unfold oZ at this;simpa using this
   rw[TA s p hp h0,Mw s m (p+1) (fun x hx=>h x (by simp[hx])) (by omega),show p+1+m=p+(m+1)from by omega]
theorem TC (s:ByteArray)(p:Nat)(h:p<s.size)(h32:¬ ((s[p].toNat:Nat):Int)=32)(ht:fJ (aL s p)=none):l6 s p=none:=by
 unfold l6;rw[nO s p h]at ht ⊢;rw[bf,tq,af h32,ht]
theorem TD (s:ByteArray)(p:Nat)(h:p<s.size)(h32:¬ ((s[p].toNat:Nat):Int)=32)(t:ah)(n:Nat)(ht:fJ (aL s p)=some (t,n)):l6 s p=(l6 s (p+n)).map (t.goto p :: ·):=by
 have hn:=rY _ _ _ ht;have hd:=Vx s p n;unfold l6;rw[nO s p h]at ht hd hn ⊢;rw[bf,tq,af h32,ht];simp only;rw[hd,Hu _ (aL s (p+n)).length _ _ (by rw[oF,oF];omega) (aj _)]
theorem Wy (p:Int→Bool)(l:List Int):∀x∈l.take (l.takeWhile p).length,p x=true:=by
 have e:=take_split p l
 have h:l.take (l.takeWhile p).length=l.takeWhile p:=by
  have h0:(l.takeWhile p++l.drop (l.takeWhile p).length).take (l.takeWhile p).length=l.takeWhile p:=List.take_left;rw[e]at h0;exact h0
 rw[h];exact uW p l
theorem Wn (s:ByteArray)(p q:Nat)(hq:p+((aL s p).takeWhile oZ).length=q)(h:q<s.size):¬ ((s[q].toNat:Nat):Int)=32:=by
 have h1:=Fw oZ (aL s p);rw[Vx,hq,nO s q h]at h1;have:=h1 _ rfl;unfold oZ at this;simpa using this
theorem Wo (s:ByteArray)(p:Nat)(h:p≤s.size):p+((aL s p).takeWhile oZ).length≤s.size:=by
 have:=BM oZ (aL s p);rw[oF]at this;omega
theorem Vars.lt {w:World}(h:Vars w):max 8 1<w.heap.size:=by
 have hs:=h.sig.lt;obtain⟨ev,h1,_⟩:=h.err
 have hr:8<w.heap.size:=by
  rcases Nat.lt_or_ge 8 w.heap.size with h'|h'
  · exact h'
  · exfalso;unfold World.cell? at h1;simp only at h1;rw[Array.getElem?_eq_none h']at h1;cases h1
 omega
theorem pK.no {b:Nat}{s:ByteArray}{k:Nat}{w w':World}{e:Ending}(h:pK none b s k w e w'):w.grownBy w' (some b)∧∃t:ah,e = .returned (.tuple #[.agg #[.int .i64 t.kind,.string t.text,.int .i64 t.num,.string t.sh,.int .i64 t.c,.int .i64 t.r,.bool t.ac,.bool t.ar,.int .i64 t.pos],.bool false]):=by
 rcases h.lit with ⟨h1,⟨t,n,h2,_⟩|⟨_,h2⟩⟩
 · cases h2
 · exact⟨h1,h2⟩
theorem pK.yes {b:Nat}{s:ByteArray}{k n:Nat}{t:ah}{w w':World}{e:Ending}(h:pK (some (t,n)) b s k w e w'):w.grownBy w' (some b)∧e = .returned (.tuple #[.agg #[.int .i64 t.kind,.string t.text,.int .i64 t.num,.string t.sh,.int .i64 t.c,.int .i64 t.r,.bool t.ac,.bool t.ar,.int .i64 t.pos],.bool true])∧bZ w' b s (k+n):=by
 rcases h.lit with ⟨h1,⟨t',n',h2,h3,h4⟩|⟨h2,_⟩⟩
 · injection h2 with h2;injection h2 with h2 h5;subst h2;subst h5;exact⟨h1,h3,h4⟩
 · cases h2
def PE (s:ByteArray)(w:World)(e:Ending)(w':World):Prop :=
 Below w.heap.size w w'∧((300<s.size∧e = .returned (.tuple #[.slice none 0 0,.int .i64 4]))∨(s.size≤300∧gT (sb s)=none∧e = .returned (.tuple #[.slice none 0 0,.int .i64 5])) ∨
  (s.size≤300∧∃ts v,gT (sb s)=some ts∧e = .returned (.tuple #[v,.int .i64 0])∧sO w' w.heap.size v ts))
theorem adV (s:ByteArray)(w:World)(h:300<s.size):Calls Tryz.prog 67 #[.string s] w (PE s w):=by
 have hi:(300:Int)<(s.size:Int):=by omega
 go_enter Tryz.func67,Tryz.ntmps67;go_wp2_with fail
 go_ret2
 exact⟨ak _ _,.inl ⟨h,rfl⟩⟩
theorem Mx (s:ByteArray)(w:World)(hv:Vars w):Calls Tryz.prog 67 #[.string s] w (PE s w):=by
 by_cases rC:300<s.size
 · exact adV s w rC
 have hi:¬ (300:Int)<(s.size:Int):=by omega
 have hs0:s.size≤1000000:=by omega
 obtain⟨eb,jW,df⟩:=Elem.tok;have jw:=ae df;clear df;have hb2:=hv.lt;have aW:=ae hv;clear hv;have hsk:=Wm w.heap.size s 0 _ (bZ.new w s) hs0 (by omega);rw[Nat.zero_add]at hsk;obtain⟨p0,hp0⟩:∃p0,((aL s 0).takeWhile oZ).length=p0:=⟨_,rfl⟩;rw[hp0]at hsk;have lT:=ae hsk;clear hsk;have R6:=Wo s 0 (ek _);rw[Nat.zero_add,hp0]at R6
 have DT:=ae (show gT (sb s)=(l6 s p0).map (([]:List ah) ++ ·)by
  have:=Mw s p0 0 (by rw[← hp0];exact Wy _ _) (by omega);rw[Tx,this,Nat.zero_add];cases l6 s p0 <;> rfl)
 have HH0:=ae (fun h=>Wn s 0 p0 (by rw[hp0];omega) h);clear hp0;go_enter Tryz.func67,Tryz.ntmps67;go_wp2_with (go_at_call 90;((with_reducible refine lT.o.mono ?_);rintro e w1 ⟨h1,rfl,h2⟩;have HB:=ae (vM ((ak _ _).alloc (aj _) _) h1 (by simp) (aj _));have HR:=ae h2;clear h1 h2))
 go_loopw [5] (fun v wr=>∃(p:Nat)(acc:List ah),p≤s.size∧acc.length≤p∧Hid (gT (sb s)=(l6 s p).map (acc ++ ·))∧Hid (∀h:p<s.size,¬ ((s[p].toNat:Nat):Int)=32)∧Hid (bZ wr w.heap.size s p)∧Hid (sO wr (w.heap.size+1) v acc)∧Hid (Below w.heap.size w wr))
  (fun _ wr=>nN w.heap.size s.size wr)
 case atStart=>exact⟨p0,[],R6,by simp,DT,HH0,HR,ae (Own.nil _ _ _ _),HB⟩
 case round =>
  clear DT HH0 lT HR HB;obtain⟨p,acc,hps,hal,HL,HH,HR,HO,HB⟩:=hrel;obtain⟨c0,c1⟩:=HR.o.facts;have y7:=ae (HR.o.nN s.size);by_cases hlt:p<s.size
  · have lH:(p:Int)<(s.size:Int):=by omega
    have hT:=ajv w.heap.size s p wr HR.o hs0 hlt hb2 (aW.o.below HB.o);cases hq:fJ (aL s p)with
    | none =>
      rw[hq]at hT;have HT:=ae hT;clear hT;have HN:=ae (show gT (sb s)=none by rw[HL.o,TC s p hlt (HH.o hlt) hq];rfl);clear hq;go_wp2_with (go_at_call 91;((with_reducible refine HT.o.mono ?_);intro e w1 he;obtain⟨h1,t,rfl⟩:=pK.no he;have HB1:=ae (vM HB.o h1 HB.o.size (aj _));clear h1 he))
      go_ret2
      exact⟨HB1.o.alloc HB1.o.size _,.inr (.inl ⟨by omega,HN.o,rfl⟩)⟩
    | some q =>
      obtain⟨t0,n0⟩:=q;rw[hq]at hT;obtain⟨t1,ht1⟩:∃t1,t0.goto p=t1:=⟨_,rfl⟩;have hT:Calls Tryz.prog 91 #[.pointer (some ⟨w.heap.size,0,none⟩)] wr (pK (some (t1,n0)) w.heap.size s p wr):=by rw[← ht1];exact hT
      have HT:=ae hT;clear hT;have hn0:=rY _ _ _ hq;rw[oF]at hn0
      have yY:=ae (show gT (sb s)=(l6 s (p+n0)).map ((acc++[t1]) ++ ·)by
       rw[← ht1,HL.o,TD s p hlt (HH.o hlt) t0 n0 hq,Option.map_map];congr 1;funext l;simp)
      clear hq HL HH ht1;have Bb:p+n0≤s.size:=by omega
      go_upto_region 11 with (go_at_call 91;((with_reducible refine HT.o.mono ?_);intro e w1 he;obtain⟨h1,rfl,h2⟩:=pK.yes he;have HB1:=ae (vM HB.o h1 HB.o.size (aj _));have fZ:=ae (Own.other HO.o h1 (Nat.lt_succ_self _));have HR1:=ae h2;clear h1 h2 he))
      have hB3:Below w1.heap.size w1 (w1.alloc (.cells (tA t1 (.int .i64 t1.pos)) 113)):=(ak _ _).alloc (aj _) _;have aM:aN (w1.alloc (.cells (tA t1 (.int .i64 t1.pos)) 113)) w1.heap.size t1:=aN.new w1 t1;have HR3:=ae (HR1.o.below hB3 HR1.o.lt);have gm:=ae (fZ.o.alloc (.cells (tA t1 (.int .i64 t1.pos)) 113));have HB3:=ae (HB1.o.trans (hB3.mono HB1.o.size));clear hB3 HT HB1 fZ HR1 HB HO HR c0 c1;generalize w1.alloc (.cells (tA t1 (.int .i64 t1.pos)) 113)=w3 at HR3 aM gm HB3 ⊢;obtain⟨y0,y1,y2,y3,y4,dH,y6,ll,nE⟩:=aM.cells;clear aM;go_upto_region 7 with (at_builtin;refine oL jw.o AP rfl (.tmp 32) (.tmp 34) rfl (w.heap.size+1) _ _ rfl (gm.o.alloc _) ⟨_,0,none⟩ 1 1 [t1] rfl rfl ?_ ?_ ?_ ?_ ?_;exact gD _ _ _ rfl;exact bN (Nat.mul_le_mul_left _ jW) (by omega);(unfold maxLen;omega);(have:=HR3.o.lt;simp <;> omega);intro v' oM h1 h2;have qp:=ae h1;have lC:=ae (((ak (w.heap.size+1) _).alloc (by have:=HR3.o.lt;omega) _).trans h2);clear h1 h2)
      have HR4:=ae (HR3.o.below lC.o (Nat.lt_succ_self _));have cu:=ae (HB3.o.trans (lC.o.mono (Nat.le_succ _)));have L6:=Wm w.heap.size s (p+n0) oM HR4.o hs0 Bb;obtain⟨q,hq⟩:∃q,p+n0+((aL s (p+n0)).takeWhile oZ).length=q:=⟨_,rfl⟩;rw[hq]at L6;have Yv:=ae L6;clear L6;have LX:=Wo s (p+n0) Bb;rw[hq]at LX
      have XX:=ae (show gT (sb s)=(l6 s q).map ((acc++[t1]) ++ ·)by
       rw[yY.o, ← hq];have:=Mw s _ (p+n0) (Wy oZ _) (by rw[hq];exact LX);rw[this])
      have Aj:=ae (fun h=>Wn s (p+n0) q hq h);have hpq:p<q:=by omega
      clear hq yY;go_wp2_with (go_at_call 90;((with_reducible refine Yv.o.mono ?_);rintro e w5 ⟨h1,rfl,h2⟩;have eX:=ae (vM cu.o h1 cu.o.size (aj _));have mQ:=ae (Own.other qp.o h1 (Nat.lt_succ_self _));have Ao:=ae h2;clear h1 h2))
      go_roundw
      case rel=>exact⟨q,acc++[t1],LX,by simp;omega,XX,Aj,Ao,mQ,eX⟩
      case measure =>
       have h1:=Ao.o.nN s.size;rw[y7.o,h1];omega
  · have lH:¬ (p:Int)<(s.size:Int):=by omega
    have HN:=ae (show gT (sb s)=some (acc++[ah.zero.goto p])by rw[HL.o,TB s p (by omega)];rfl);clear HL HH;go_wp2_with (at_builtin;refine oL jw.o AP rfl (.tmp 36) (.tmp 42) rfl (w.heap.size+1) _ _ rfl (HO.o.alloc _) ⟨_,0,none⟩ 1 1 [ah.zero.goto p] rfl rfl ?_ ?_ ?_ ?_ ?_;exact gD _ _ _ rfl;exact bN (Nat.mul_le_mul_left _ jW) (by omega);(unfold maxLen;omega);(have:=HR.o.lt;simp <;> omega);intro v' oM h1 h2;have qp:=ae h1;have lC:=ae (((ak (w.heap.size+1) _).alloc (by have:=HR.o.lt;omega) _).trans h2);clear h1 h2)
    go_ret2
    exact⟨HB.o.trans (lC.o.mono (by have:=HR.o.lt;omega)),.inr (.inr ⟨by omega,_,_,HN.o,rfl,qp.o.mono (by omega)⟩)⟩
theorem sO.cell {w:World}{base g n cap:Nat}{ts:List ah}(h:sO w base (.slice (some ⟨g,0,none⟩) n cap) ts)(i:Nat)(t:ah)(hi:ts[i]? = some t)(j:Nat)(hj:j<9):w.cell? ⟨g,i*9+j,none⟩=(qh t).toList[j]? := by
 have hl:(qh t).toList.length=9:=rfl;have hu:(AP.f t)[j]? = some ((qh t).toList[j]'(by omega)):=cZ _;have:=Own.cells h (i*9+j) _ (by rw[AP.at ts i j t hi hj];exact hu);rw[this];exact hu.symm
theorem TE (s:ByteArray)(w:World)(hv:Vars w)(hs:s.size≤300)(ts:List ah)(hl:gT (sb s)=some ts)(hne:0<ts.length) :
 Calls Tryz.prog 67 #[.string s] w fun e w'=>Below w.heap.size w w'∧∃g cap,e = .returned (.tuple #[.slice (some ⟨g,0,none⟩) ts.length cap,.int .i64 0])∧w.heap.size≤g∧g<w'.heap.size∧sO w' w.heap.size (.slice (some ⟨g,0,none⟩) ts.length cap) ts:=by
 refine(Mx s w hv).mono ?_;rintro e w' ⟨hb,h|⟨_,h,_⟩|⟨_,ts',v,h1,rfl,h2⟩⟩
 · omega
 · rw[hl]at h;cases h
 · rw[hl]at h1;injection h1 with h1;subst h1
   obtain⟨g,cap,rfl,h3,h4,_,_⟩:=Own.some h2 hne;exact⟨hb,g,cap,rfl,h3,h4,h2⟩
theorem TF (s:ByteArray)(w:World)(hv:Vars w)(hs:s.size≤300)(hl:gT (sb s)=none) :
 Calls Tryz.prog 67 #[.string s] w fun e w'=>Below w.heap.size w w'∧e = .returned (.tuple #[.slice none 0 0,.int .i64 5]):=by
 refine(Mx s w hv).mono ?_;rintro e w' ⟨hb,h|⟨_,_,rfl⟩|⟨_,ts',v,h1,_⟩⟩
 · omega
 · exact⟨hb,rfl⟩
 · rw[hl]at h1;cases h1
structure aK where
 n:Nd
 g:Option (Nat × Nat)
def aK.aY (v:aK):Value:=match v.g with
 | none => .slice none 0 0
 | some (g,c) => .slice (some ⟨g,0,none⟩) v.n.kids.length c
def bA(n:Nd)(k:Value):Array Value:=#[.int .i64 n.kind,.int .i64 n.num,.string n.text,.string n.ref.sh,.int .i64 n.ref.c,.int .i64 n.ref.r,.bool n.ref.ac,.bool n.ref.ar,.string n.ai.sh,.int .i64 n.ai.c,.int .i64 n.ai.r,.bool n.ai.ac,.bool n.ai.ar,k]
abbrev aB(n:Nd)(k:Value):Array Value:=#[.int .i64 n.kind,.int .i64 n.num,.string n.text,.string n.ref.sh,.int .i64 n.ref.c,.int .i64 n.ref.r,.bool n.ref.ac,.bool n.ref.ar,.string n.ai.sh,.int .i64 n.ai.c,.int .i64 n.ai.r,.bool n.ai.ac,.bool n.ai.ar,k]
abbrev nB(k m:Int)(t:ByteArray)(v:Value):Array Value:=#[.int .i64 k,.int .i64 m,.string t,.string ⟨#[]⟩,.int .i64 0,.int .i64 0,.bool false,.bool false,.string ⟨#[]⟩,.int .i64 0,.int .i64 0,.bool false,.bool false,v]
abbrev Ad:Array Value:=#[.string ⟨#[]⟩,.int .i64 0,.int .i64 0,.bool false,.bool false]
theorem aK.one (v:aK):v.aY.oneCell'=true:=by
 unfold aK.aY;split <;> rfl
theorem EW (n:Nd)(k:Value)(hk:k.oneCell'=true):∀u∈(bA n k).toList,u.oneCell'=true:=by
 intro v hv;simp only[bA,ik,List.not_mem_nil,or_false]at hv;rcases hv with rfl|rfl|rfl|rfl|rfl|rfl|rfl|rfl|rfl|rfl|rfl|rfl|rfl|rfl
 all_goals first|rfl|exact hk
theorem qB {w w1:World}{pb q:Nat}{n:Nd}{k:Value}(hb:Below w.heap.size w w1)(hp:pb<w.heap.size)(hc:∀j,j<14→w.cell? ⟨pb,q+j,none⟩=(bA n k).toList[j]?) :
 w1.cell? ⟨pb,q,none⟩=some (.int .i64 n.kind)∧w1.cell? ⟨pb,q+1,none⟩=some (.int .i64 n.num)∧w1.cell? ⟨pb,q+2,none⟩=some (.string n.text)∧w1.cell? ⟨pb,q+3,none⟩=some (.string n.ref.sh)∧w1.cell? ⟨pb,q+4,none⟩=some (.int .i64 n.ref.c)∧w1.cell? ⟨pb,q+5,none⟩=some (.int .i64 n.ref.r)∧w1.cell? ⟨pb,q+6,none⟩=some (.bool n.ref.ac)∧w1.cell? ⟨pb,q+7,none⟩=some (.bool n.ref.ar)∧w1.cell? ⟨pb,q+8,none⟩=some (.string n.ai.sh)∧w1.cell? ⟨pb,q+9,none⟩=some (.int .i64 n.ai.c)∧w1.cell? ⟨pb,q+10,none⟩=some (.int .i64 n.ai.r)∧w1.cell? ⟨pb,q+11,none⟩=some (.bool n.ai.ac)∧w1.cell? ⟨pb,q+12,none⟩=some (.bool n.ai.ar)∧w1.cell? ⟨pb,q+13,none⟩=some k:=by
 have h:=fun j (hj:j<14)=>(hb.cell (p:=⟨pb,q+j,none⟩) hp).trans (hc j hj)
 exact⟨h 0 (by decide),h 1 (by decide),h 2 (by decide),h 3 (by decide),h 4 (by decide),h 5 (by decide),h 6 (by decide),h 7 (by decide),h 8 (by decide),h 9 (by decide),h 10 (by decide),h 11 (by decide),h 12 (by decide),h 13 (by decide)⟩
def qD:Enc aK 14:={ f:=fun v=>(bA v.n v.aY).toList,len:=fun _=>rfl,one:=fun v u hu=>EW _ _ v.one u hu }
def kG(w:World)(lo:Nat)(nv:Value)(vs:List aK):Prop:=Own qD 44 w lo nv vs∧∀v∈vs,Own (aJ .i64) 3 w lo v.aY v.n.kids
theorem kG.keep {w w':World}{lo:Nat}{nv:Value}{vs:List aK}(h:kG w lo nv vs)(hk:∀g,lo≤g→g<w.heap.size→w'.heap[g]? = w.heap[g]?):kG w' lo nv vs :=
 ⟨h.1.keep fun g a b _=>hk g a b,fun v hv=>(h.2 v hv).keep fun g a b _=>hk g a b⟩
theorem kG.nil(w:World)(lo:Nat):kG w lo (.slice none 0 0) []:=⟨Own.nil _ _ _ _,fun v hv=>absurd hv (by simp)⟩
def Cm(w:World)(k:Nat):Prop:=∃cur fr,w.heap[k]? = some (.cells cur 44 fr)
structure Fr (w w':World)(b:Nat):Prop where
 os:w'.os=w.os
 tape:w'.tape=w.tape
 output:w'.output=w.output
 size:w.heap.size≤w'.heap.size
 block:∀k,k<w.heap.size→k≠b→(k<b∨¬ Cm w k)→w'.heap[k]? = w.heap[k]?
theorem Fr.refl(w:World)(b:Nat):Fr w w b:=⟨rfl,rfl,rfl,aj _,fun _ _ _ _=>rfl⟩
theorem Fr.trans {w w1 w2:World}{b:Nat}(h:Fr w w1 b)(k:Fr w1 w2 b):Fr w w2 b :=
 ⟨k.os.trans h.os,k.tape.trans h.tape,k.output.trans h.output,bN h.size k.size,fun j hj hb hr=>by
  have h1:=h.block j hj hb hr;rw[k.block j (eB hj h.size) hb (hr.imp id fun hn ⟨cur,fr,e⟩=>hn ⟨cur,fr,by rw[← h1];exact e⟩)];exact h1⟩
theorem Fr.below {w w1 w2:World}{b:Nat}(h:Fr w w1 b)(k:Below w1.heap.size w1 w2):Fr w w2 b :=
 ⟨k.os.trans h.os,k.tape.trans h.tape,k.output.trans h.output,bN h.size k.size,fun j hj hb hr=>by
  rw[k.block j (eB hj h.size)];exact h.block j hj hb hr⟩
theorem Fr.of{w w1:World}(b:Nat)(k:Below w.heap.size w w1):Fr w w1 b:=(Fr.refl w b).below k
theorem Fr.setCell {w w1:World}{b:Nat}(h:Fr w w1 b)(o:Nat)(v:Value):Fr w (w1.setCell ⟨b,o,none⟩ v) b :=
 ⟨h.os,h.tape,h.output,by simpa using h.size,fun j hj hb hr=>by
  rw[gy _ _ _ _ (by intro e;exact hb e)];exact h.block j hj hb hr⟩
theorem Fr.drew{w w1:World}{b:Nat}(h:Fr w w1 b):Fr w w1.drew b:=⟨h.os,h.tape,h.output,h.size,h.block⟩
theorem Fr.row {w w1 w2:World}{b:Nat}{r:Option Nat}(h:Fr w w1 b)(k:w1.grownBy w2 r)(hr:∀g,r=some g→b<g∧(w.heap.size≤g∨Cm w1 g)):Fr w w2 b :=
 ⟨k.os.trans h.os,k.tape.trans h.tape,k.output.trans h.output,bN h.size k.size,fun j hj hb hc=>by
  have h1:=h.block j hj hb hc
  rw [k.block j (eB hj h.size) (by
   intro e;obtain⟨h2,h3⟩:=hr j e.symm;rcases h3 with h3|⟨cur,fr,h3⟩
   · omega
   · rcases hc with hc|hc
     · omega
     · exact hc ⟨cur,fr,by rw[← h1];exact h3⟩)]
  exact h1⟩
theorem Fr.toBelow {w w':World}{B b:Nat}(h:Fr w w' b)(hb:B≤b)(hB:B≤w.heap.size):Below B w w' :=
 ⟨h.os,h.tape,h.output,h.size,fun j hj=>h.block j (by omega) (by omega) (.inl (by omega))⟩
theorem Own.fr {α : Type}{size:Nat}{E:Enc α size}{e:TypeId}{w w':World}{base b:Nat}{v:Value}{xs:List α}(h:Own E e w base v xs)(hf:Fr w w' b)(hb:b<base)(he:e≠44):Own E e w' base v xs:=by
 refine⟨h.1, ?_⟩;rcases h.2 with h|⟨g,cap,cur,h1,h2,h3,h4⟩
 · exact .inl h
 · refine .inr ⟨g,cap,cur,h1,h2, ?_,h4⟩
   rw [hf.block g (dB.1 h3).1 (by omega) (.inr (by
    rintro⟨c,fr,e2⟩;rw[h3]at e2;injection e2 with e2;injection e2 with _ e2;exact he e2))];exact h3
def Az(w:World)(b:Nat)(tv:Value)(ts:List ah):Prop:=∃g cap,tv = .slice (some ⟨g,0,none⟩) ts.length cap∧g<b∧sO w 0 tv ts
def rR:List (ByteArray × Nat × Int):=[(⟨#[61]⟩,0,9),(⟨#[60,62]⟩,0,10),(⟨#[60]⟩,0,11),(⟨#[60,61]⟩,0,12),(⟨#[62]⟩,0,13),(⟨#[62,61]⟩,0,14),(⟨#[38]⟩,1,15),(⟨#[43]⟩,2,16),(⟨#[45]⟩,2,17),(⟨#[42]⟩,3,18),(⟨#[47]⟩,3,19)]
def BB:Array Value:=(rR.flatMap fun p=>[.string p.1,.int .i64 (p.2.1:Int),.int .i64 p.2.2]).toArray
def nY(w:World):Prop:=∃ty fr,w.heap[(2:Nat)]? = some (.cells BB ty fr)
theorem nY.lt{w:World}(h:nY w):2<w.heap.size:=by obtain⟨_,_,h⟩:=h;exact(dB.1 h).1
theorem nY.keep{w w':World}(h:nY w)(hk:w'.heap[(2:Nat)]? = w.heap[(2:Nat)]?):nY w':=by obtain⟨ty,fr,h⟩:=h;exact⟨ty,fr,by rw[hk];exact h⟩
theorem nY.below{w w':World}(h:nY w)(hb:Below w.heap.size w w'):nY w':=h.keep (hb.block _ h.lt)
structure cB (w:World)(b:Nat)(tv:Value)(ts:List ah)(p deep:Nat)(nv:Value)(vs:List aK):Prop where
 cell:w.heap[b]? = some (.cells #[tv,.int .i64 (p:Int),.int .i64 (deep:Int),nv] 110)
 qR:Az w b tv ts
 nodes:kG w (b+1) nv vs
 ops:nY w
 lt:p<ts.length
 low:max 8 2<b
 fit:Fit ts
 few:ts.length≤1000
 cnt:vs.length≤p
 nest:deep≤12
section
variable {w:World} {b:Nat} {tv:Value} {ts:List ah} {p deep:Nat} {nv:Value} {vs:List aK}
theorem cB.blt(h:cB w b tv ts p deep nv vs):b<w.heap.size:=(dB.1 h.cell).1
theorem cB.below {w':World}(h:cB w b tv ts p deep nv vs)(hb:Below w.heap.size w w'):cB w' b tv ts p deep nv vs:=by
 have hl:=h.blt;refine⟨by rw[hb.block b hl];exact h.cell, ?_,h.nodes.keep fun g _ hg=>hb.block g hg,h.ops.below hb,h.lt,h.low,h.fit,h.few,h.cnt,h.nest⟩;obtain⟨g,cap,h1,h2,h3⟩:=h.qR;exact⟨g,cap,h1,h2,h3.keep fun g _ hg _=>hb.block g hg⟩
theorem cB.facts (h:cB w b tv ts p deep nv vs):w.cell? ⟨b,0,none⟩=some tv∧w.cell? ⟨b,1,none⟩=some (.int .i64 (p:Int))∧w.cell? ⟨b,2,none⟩=some (.int .i64 (deep:Int))∧w.cell? ⟨b,3,none⟩=some nv :=
 ⟨by rw[cell_of_row w b 0 _ _ _ h.cell];rfl,by rw[cell_of_row w b 1 _ _ _ h.cell];rfl,by rw[cell_of_row w b 2 _ _ _ h.cell];rfl,by rw[cell_of_row w b 3 _ _ _ h.cell];rfl⟩
theorem cB.frozen(h:cB w b tv ts p deep nv vs)(j:Nat):w.frozen? ⟨b,j,none⟩=false:=frozen_of_row w b j _ _ h.cell
theorem Az.set (h:Az w b tv ts)(o:Nat)(v:Value):Az (w.setCell ⟨b,o,none⟩ v) b tv ts:=by
 obtain⟨g,cap,h1,h2,h3⟩:=h;refine⟨g,cap,h1,h2,h3.keep fun j _ _ hj=>gy _ _ _ _ ?_⟩;rw[h1]at hj;injection hj with hj;show j≠b;have:g=j:=hj;omega
theorem kG.set {c:Nat}(h:kG w (b+1) nv vs)(hc:c<b+1)(o:Nat)(v:Value):kG (w.setCell ⟨c,o,none⟩ v) (b+1) nv vs :=
 h.keep fun j hj _=>gy _ _ _ _ (by show j≠c;omega)
theorem nY.set(h:nY w)(hb:max 8 2<b)(o:Nat)(v:Value):nY (w.setCell ⟨b,o,none⟩ v):=h.keep (gy _ _ _ _ (by show 2≠b;omega))
theorem cB.NH (h:cB w b tv ts p deep nv vs)(m:Nat)(hm:m<ts.length)(hp:p≤m):cB (w.setCell ⟨b,1,none⟩ (.int .i64 (m:Int))) b tv ts m deep nv vs :=
 ⟨by rw[heap_setCell_same w b 1 _ _ _ h.cell];rfl,h.qR.set _ _,h.nodes.set (by omega) _ _,h.ops.set h.low _ _,hm,h.low,h.fit,h.few,by have:=h.cnt;omega,h.nest⟩
theorem cB.next(h:cB w b tv ts p deep nv vs)(hm:p+1<ts.length):cB (w.setCell ⟨b,1,none⟩ (.int .i64 ((p:Int)+1))) b tv ts (p+1) deep nv vs:=h.NH (p+1) hm (by omega)
theorem cB.qO (h:cB w b tv ts p deep nv vs)(m:Nat)(hm:m≤12):cB (w.setCell ⟨b,2,none⟩ (.int .i64 (m:Int))) b tv ts p m nv vs :=
 ⟨by rw[heap_setCell_same w b 2 _ _ _ h.cell];rfl,h.qR.set _ _,h.nodes.set (by omega) _ _,h.ops.set h.low _ _,h.lt,h.low,h.fit,h.few,h.cnt,hm⟩
theorem cB.drew(h:cB w b tv ts p deep nv vs):cB w.drew b tv ts p deep nv vs:=⟨h.cell,h.qR,h.nodes,h.ops,h.lt,h.low,h.fit,h.few,h.cnt,h.nest⟩
theorem cB.tok (h:cB w b tv ts p deep nv vs):∃g cap t,tv = .slice (some ⟨g,0,none⟩) ts.length cap∧ts[p]? = some t∧ts.drop p=t :: ts.drop (p+1)∧g<w.heap.size∧w.cell? ⟨g,p*9,none⟩=some (.int .i64 t.kind)∧w.cell? ⟨g,p*9+1,none⟩=some (.string t.text)∧w.cell? ⟨g,p*9+2,none⟩=some (.int .i64 t.num)∧w.cell? ⟨g,p*9+3,none⟩=some (.string t.sh)∧w.cell? ⟨g,p*9+4,none⟩=some (.int .i64 t.c)∧w.cell? ⟨g,p*9+5,none⟩=some (.int .i64 t.r)∧w.cell? ⟨g,p*9+6,none⟩=some (.bool t.ac)∧w.cell? ⟨g,p*9+7,none⟩=some (.bool t.ar)∧w.cell? ⟨g,p*9+8,none⟩=some (.int .i64 t.pos):=by
 obtain⟨g,cap,h1,h2,h3⟩:=h.qR;have hl:=h.lt;rw[h1]at h3;have hc:=fun j hj=>sO.cell h3 p _ (cZ hl) j hj
 exact⟨g,cap,ts[p],h1,cZ hl,List.drop_eq_getElem_cons hl,by have:=h.blt;omega,hc 0 (by omega),hc 1 (by omega),hc 2 (by omega),hc 3 (by omega),hc 4 (by omega),hc 5 (by omega),hc 6 (by omega),hc 7 (by omega),hc 8 (by omega)⟩
end
theorem Fit.next {ts:List ah}{p:Nat}{t:ah}(h:Fit ts)(ht:ts[p]? = some t)(hk:t.kind≠0):p+1<ts.length:=by
 obtain⟨body,e,rfl,he,_⟩:=h;have hp:=(eQ.1 ht).1;rw[ax,fo]at hp ⊢;rcases Nat.lt_or_ge p body.length with h1|h1
 · omega
 · exfalso
   rw[List.getElem?_append_right h1,show p - body.length=0 from by omega]at ht;simp at ht;subst ht;exact hk he
def xn(b n:Nat)(w:World):Nat:=n - (match w.cell? ⟨b,1,none⟩with|some (.int _ m)=>m.toNat|_=>0)
theorem cB.xn {w:World}{b:Nat}{tv:Value}{ts:List ah}{p deep:Nat}{nv:Value}{vs:List aK}(h:cB w b tv ts p deep nv vs)(n:Nat):xn b n w=n - p:=by
 unfold Go.Proofs.YtbplbjmmfgjdjaaGreatDoor.xn;rw[h.facts.2.1];rfl
theorem ag8:Tryz.f69.results=#[.cell 2 113]:=by kernel_rfl
theorem afJ {w:World}{b:Nat}{t:ah}(h:aN w b t)(fn:Func)(tmps:Array Value)(p:Tmp)(hf:fn.results=#[.cell p 113])(hp:tmps.getD p undef = .pointer (some ⟨b,0,none⟩)) :
 (results fn tmps).run Tryz.prog w = .ok (.agg (qh t)) w:=results_cell_row hf tmps w b 113 _ _ _ hp h Tryz.underlying113 rfl WT
theorem Iy {w:World}{b:Nat}{tv:Value}{ts:List ah}{p deep:Nat}{nv:Value}{vs:List aK}(h:cB w b tv ts p deep nv vs)(t:ah)(ht:ts[p]? = some t) :
 Calls Tryz.prog 69 #[.pointer (some ⟨b,0,none⟩)] w fun e w'=>e = .returned (.agg #[.int .i64 t.kind,.string t.text,.int .i64 t.num,.string t.sh,.int .i64 t.c,.int .i64 t.r,.bool t.ac,.bool t.ar,.int .i64 t.pos])∧Below w.heap.size w w':=by
 have hal:Below w.heap.size w (w.alloc (.cells kE 113)):=(ak _ _).alloc (aj _) _;have h1:=h.below hal;obtain⟨c0,c1,c2,c3⟩:=h1.facts;obtain⟨g,cap,t',rfl,ht', -,hg,k0,k1,k2,k3,k4,k5,k6,k7,k8⟩:=h1.tok;rw[ht]at ht';injection ht' with ht';subst ht';have hlt:=h.lt;have hi1:(0:Int)≤(p:Int):=by omega
 have hi2:(p:Int)<(ts.length:Int):=by omega
 obtain⟨n,hn⟩:∃n,ts.length=n:=⟨_,rfl⟩;rw[hn]at hi2 c0;have aT:=aN.zero w;obtain⟨x0,x1,x2,x3,x4,x5,x6,x7,av⟩:=aT.cells;obtain⟨f0,f1,f2,f3,f4,f5,f6,f7,f8⟩:=aT.bR;have aT:=ae aT;have bz:=ae hal;clear h h1 hal c2 c3 ht hlt hn;go_enter Tryz.func69,Tryz.ntmps69;go_wp2_with fail
 go_region
 go_wp2_with fail
 exact bodyPost_ret (afJ (aN.new w t).drew _ _ 2 ag8 rfl) rfl ⟨rfl,((ak _ _).alloc (aj _) _).drew⟩
theorem I4{s:ByteArray}{ts:List ah}{p:Nat}{t:ah}(hd:ts.drop p=t :: ts.drop (p+1)):ay s (ts.drop p)=(decide (t.kind=5)&&decide (t.text=s)):=by rw[hd];rfl
theorem Bn {w:World}{b:Nat}{tv:Value}{ts:List ah}{p deep:Nat}{nv:Value}{vs:List aK}(h:cB w b tv ts p deep nv vs)(s:ByteArray) :
 Calls Tryz.prog 124 #[.pointer (some ⟨b,0,none⟩),.string s] w fun e w'=>e = .returned (.bool (ay s (ts.drop p)))∧Below w.heap.size w w':=by
 obtain⟨g,cap,t, -,ht,hd, -⟩:=h.tok;have HT:=ae (Iy h t ht);have HS:=ae (I4 (s:=s) hd);clear h ht hd;go_enter Tryz.func124,Tryz.ntmps124;go_upto_region 2 with (go_at_call 69;((with_reducible refine HT.o.mono ?_);rintro e w1 ⟨rfl,h1⟩;have HB:=ae h1;clear h1))
 have hB3:Below w1.heap.size w1 (w1.alloc (.cells (tA t (.int .i64 t.pos)) 113)):=(ak _ _).alloc (aj _) _;have aM:aN (w1.alloc (.cells (tA t (.int .i64 t.pos)) 113)) w1.heap.size t:=aN.new w1 t;have HB3:=ae (HB.o.trans (hB3.mono HB.o.size));clear hB3 HB;generalize w1.alloc (.cells (tA t (.int .i64 t.pos)) 113)=w3 at aM HB3 ⊢;obtain⟨x0,x1,x2,x3,x4,x5,x6,x7,av⟩:=aM.cells;clear aM;by_cases h5:t.kind=5
 · have e5:(t.kind == 5)=true:=bB.2 h5
   by_cases hs:t.text=s
   · have hs1:t.text.toList=s.toList:=by rw[hs]
     have fF:=ae (show ay s (ts.drop p)=true by rw[HS.o,aR h5,aR hs];rfl);clear h5 hs;go_wp2_with fail
     go_ret;exact⟨by rw[fF.o];rfl,HB3.o⟩
   · have fF:=ae (show ay s (ts.drop p)=false by rw[HS.o,aR h5,aV hs];rfl)
     have HE:=ae (show(t.text.toList == s.toList)=false from aA.2 (pg _ _ hs));clear h5 hs;go_wp2_with fail
     go_ret;exact⟨by rw[fF.o];exact gu HE.o,HB3.o⟩
 · have e5:(t.kind == 5)=false:=aA.2 h5
   have fF:=ae (show ay s (ts.drop p)=false by rw[HS.o,aV h5];rfl);clear h5;go_wp2_with fail
   go_ret;exact⟨by rw[fF.o];rfl,HB3.o⟩
theorem BJ {w:World}{b:Nat}{tv:Value}{ts:List ah}{p deep:Nat}{nv:Value}{vs:List aK}(h:cB w b tv ts p deep nv vs){s:ByteArray}(hs:ay s (ts.drop p)=true):p+1<ts.length:=by
 obtain⟨g,cap,t, -,ht,hd, -⟩:=h.tok;rw[I4 hd,dJ,aQ]at hs;exact h.fit.next ht (by omega)
theorem ahm {w:World}{b:Nat}{tv:Value}{ts:List ah}{p deep:Nat}{nv:Value}{vs:List aK}(h:cB w b tv ts p deep nv vs)(hne:0<vs.length) :
 Calls Tryz.prog 127 #[.pointer (some ⟨b,0,none⟩)] w fun e w'=>e = .returned (.int .i64 ((vs.length:Int) - 1))∧w=w':=by
 obtain⟨c0,c1,c2,c3⟩:=h.facts;obtain⟨g,cap,rfl, -, -, -, -⟩:=Own.some h.nodes.1 hne;have h1:=h.cnt;have h2:=h.few;have h3:=h.lt;have hw1 : -9223372036854775808≤(vs.length:Int) - 1:=by omega
 have hw2:(vs.length:Int) - 1≤9223372036854775807:=by omega
 obtain⟨n,hn⟩:∃n,vs.length=n:=⟨_,rfl⟩;rw[hn]at c3 hw1 hw2 ⊢;clear h c0 c1 c2 h1 h2 h3 hne hn;go_enter Tryz.func127,Tryz.ntmps127;go_wp2_with fail
 go_ret;exact⟨rfl,rfl⟩
theorem M7 {w:World}{b:Nat}{tv:Value}{ts:List ah}{p deep:Nat}{nv:Value}{vs:List aK}(h:cB w b tv ts p deep nv vs)(s:ByteArray) :
 Calls Tryz.prog 153 #[.pointer (some ⟨b,0,none⟩),.string s] w fun e w'=>Fr w w' b∧e = .returned (.bool (ay s (ts.drop p)))∧cB w' b tv ts (if ay s (ts.drop p)=true then p+1 else p) deep nv vs:=by
 have HS:=ae (Bn h s);have HP:=ae h;cases hq:ay s (ts.drop p)
 · rw[hq]at HS
   clear h hq;go_enter Tryz.func153,Tryz.ntmps153;go_wp2_with (go_at_call 124;((with_reducible refine HS.o.mono ?_);rintro e w1 ⟨rfl,h1⟩;have HB:=ae h1;clear h1))
   go_ret;exact⟨Fr.of b HB.o,rfl,HP.o.below HB.o⟩
 · have hnx:=BJ h hq
   have h2:=h.few;rw[hq]at HS;clear h hq;go_enter Tryz.func153,Tryz.ntmps153;go_wp2_with (go_at_call 124;((with_reducible refine HS.o.mono ?_);rintro e w1 ⟨rfl,h1⟩;have HB:=ae h1;have bK:=ae (HP.o.below h1);clear h1;obtain⟨c0,c1,c2,c3⟩:=bK.o.facts;have f1:=bK.o.frozen 1))
   go_ret;exact⟨(Fr.of b HB.o).setCell _ _,rfl,bK.o.next hnx⟩
theorem zM {w:World}{b:Nat}{tv:Value}{ts:List ah}{p deep:Nat}{nv:Value}{vs:List aK}(h:cB w b tv ts p deep nv vs)(hnx:p+1<ts.length) :
 Calls Tryz.prog 125 #[.pointer (some ⟨b,0,none⟩)] w fun e w'=>Fr w w' b∧((12≤deep∧e = .returned (.int .i64 6))∨(¬ 12≤deep∧e = .returned (.int .i64 0)∧cB w' b tv ts (p+1) (deep+1) nv vs)):=by
 obtain⟨c0,c1,c2,c3⟩:=h.facts;have f1:=h.frozen 1;have f2:=h.frozen 2;have hn:=h.nest;have hf:=h.few;have HP:=ae h;clear h;by_cases hd:12≤deep
 · have e12:((deep:Int) == 12)=true:=by rw[bB];omega
   go_enter Tryz.func125,Tryz.ntmps125;go_wp2_with fail
   go_ret;exact⟨Fr.refl _ _,.inl ⟨hd,rfl⟩⟩
 · have e12:((deep:Int) == 12)=false:=by rw[aA];omega
   go_enter Tryz.func125,Tryz.ntmps125;go_wp2_with fail
   go_ret;exact⟨((Fr.refl _ _).setCell _ _).setCell _ _,.inr ⟨hd,rfl,(HP.o.qO (deep+1) (by omega)).next hnx⟩⟩
theorem UQ {w:World}{b:Nat}{tv:Value}{ts:List ah}{p deep:Nat}{nv:Value}{vs:List aK}(h:cB w b tv ts p (deep+1) nv vs) :
 Calls Tryz.prog 155 #[.pointer (some ⟨b,0,none⟩)] w fun e w'=>Fr w w' b∧((ay ⟨#[41]⟩ (ts.drop p)=false∧e = .returned (.int .i64 5))∨(ay ⟨#[41]⟩ (ts.drop p)=true∧e = .returned (.int .i64 0)∧cB w' b tv ts (p+1) deep nv vs)):=by
 have HT:=ae (M7 h ⟨#[41]⟩);have hn:=h.nest;clear h;cases hq:ay ⟨#[41]⟩ (ts.drop p)
 · rw[hq]at HT
   clear hq;go_enter Tryz.func155,Tryz.ntmps155;go_wp2_with (go_at_call 153;((with_reducible refine HT.o.mono ?_);rintro e w1 ⟨h1,rfl,h2⟩;have HF:=ae h1;clear h1 h2))
   go_ret;exact⟨HF.o,.inl ⟨by trivial,rfl⟩⟩
 · rw [hq]at HT
   clear hq;go_enter Tryz.func155,Tryz.ntmps155;go_wp2_with (go_at_call 153;((with_reducible refine HT.o.mono ?_);rintro e w1 ⟨h1,rfl,h2⟩;rw[ag rfl]at h2;have HF:=ae h1;have bK:=ae h2;obtain⟨c0,c1,c2,c3⟩:=h2.facts;have f2:=h2.frozen 2;rw[show((deep+1:Nat):Int)=(deep:Int)+1 from rfl]at c2;clear h1 h2))
   go_ret;refine⟨HF.o.setCell _ _,.inr ⟨by trivial,rfl, ?_⟩⟩;have:=bK.o.qO deep (by omega)
   first
    | exact this
    | (rw[show(deep:Int)+1 - 1=(deep:Int)from by omega];exact this)
theorem ahA {P:Program}{w:World}(t e:TypeId)(n sz:Nat)(cs:Array Value)(k:Nat)(v:Array Value)(d:TypeDesc)(h:P.underlying t=some (.array n e))(he:P.underlying e=some d)(hd:(match d with | .struct _ | .array _ _=>true|_=>false)=true)
 (hsz:(P.info? e).map (·.size)=some sz) (hk:k<n) (hv:cs.extract (k*sz) (k*sz+sz)=v):(Instr.index t (.agg cs) (.int .i64 (k:Int))).run P w = .ok (.agg v) w:=by
 have h1:(0:Int)≤(k:Int)∧(k:Int)<(n:Int):=by omega
 cases hq:P.info? e with
 | none=>simp[hq]at hsz
 | some i =>
   have hs':i.size=sz:=by simp[hq]at hsz;exact hsz
   simp[Instr.index,run_underlying h,asIntOf,h1,sizeOf,typeInfo,hq,hs',part,isAgg,run_underlying he,go_sem];cases d <;> simp_all
theorem aj0 {P:Program}{ops:Array Oper}{rest:List Oper}{op:Oper}{a:Act}{w:World}{Q:Exit→Act→World→Prop}(hgd:op.guard=none)(t e:TypeId)(n sz:Nat)(x y:Operand)(ho:op.op = .index t x y)
 (cs:Array Value) (k:Nat) (v:Array Value) (d:TypeDesc) (h:P.underlying t=some (.array n e)) (he:P.underlying e=some d) (hd:(match d with | .struct _ | .array _ _=>true|_=>false)=true)
 (hsz:(P.info? e).map (·.size)=some sz) (hx:a.eval x = .agg cs) (hy:a.eval y = .int .i64 (k:Int)) (hk:k<n) (hv:cs.extract (k*sz) (k*sz+sz)=v)
 (hh:wpList P ops Q rest (a.put op.dst (.agg v)) w):wpList P ops Q (op :: rest) a w :=
 wpList_plain hgd fun _ hK=>by
  unfold Oper.wp execOp;simp only[ho,hx,hy,Sem.run_bind,Sem.run_pure,Result.andThen_ok,ahA t e n sz cs k v d h he hd hsz hk hv];exact hK _ _ hh
theorem Lc {α : Type}(f : α → Bool):∀(l:List α)(j:Nat)(x : α),l[j]? = some x→f x=true→(∀q y,q<j→l[q]? = some y→f y=false)→l.find? f=some x
 | [],j,x,h,_,_=>by simp at h
 | a :: l,0,x,h,hx,_=>by simp at h;subst h;rw[List.find?_cons,hx]
 | a :: l,j+1,x,h,hx,hn=>by
   rw[List.find?_cons,hn 0 a (by omega) rfl];exact Lc f l j x (by simpa using h) hx fun q y hq hy=>hn (q+1) y (by omega) (by simpa using hy)
theorem Ld {α : Type}(f : α → Bool):∀(l:List α),(∀(q:Nat) y,l[q]? = some y→f y=false)→l.find? f=none
 | [],_=>rfl
 | a :: l,h=>by rw[List.find?_cons,h 0 a rfl];exact Ld f l fun q y hy=>h (q+1) y (by simpa using hy)
def qJ(n:Nat)(ts:List ah)(q:ByteArray × Nat × Int):Bool:=decide (q.2.1=n)&&ay q.1 ts
theorem QS (n:Nat)(ts:List ah):∀L:List (ByteArray × Nat × Int),(((L.filter fun q=>decide (q.2.1=n)).map fun q=>(q.1,q.2.2)).find? fun p=>ay p.1 ts)=(L.find? (qJ n ts)).map fun q=>(q.1,q.2.2)
 | []=>rfl
 | a :: L=>by
   have ih:=QS n ts L;by_cases h:a.2.1=n
   · rw[List.filter_cons,ag (by simpa using h),jr,List.find?_cons,List.find?_cons]
     have e:qJ n ts a=ay a.1 ts:=by unfold qJ;rw[aR h,gV]
     rw[e];cases ay a.1 ts
     · exact ih
     · rfl
   · rw[List.filter_cons,af (by simpa using h),List.find?_cons]
     have e:qJ n ts a=false:=by unfold qJ;rw[aV h,Bool.false_and]
     rw[e];exact ih
theorem adQ:∀n:Nat,n≤3→gp n=(rR.filter fun q=>decide (q.2.1=n)).map fun q=>(q.1,q.2.2)
 | 0,_=>rfl
 | 1,_=>rfl
 | 2,_=>rfl
 | 3,_=>rfl
 | n+4,h=>by omega
theorem afx (n:Nat)(ts:List ah)(h:n≤3):fH n ts=match rR.find? (qJ n ts)with
 | some q=>q.2.2
 | none=>0:=by
 unfold fH;rw[adQ n h,QS];cases rR.find? (qJ n ts) <;> rfl
theorem afC:∀j:Nat,j<11→∃q:ByteArray × Nat × Int,rR[j]? = some q∧BB.extract (j*3) (j*3+3)=#[.string q.1,.int .i64 (q.2.1:Int),.int .i64 q.2.2]∧q.2.1≤3
 | 0,_=>⟨_,rfl,rfl,by decide⟩
 | 1,_=>⟨_,rfl,rfl,by decide⟩
 | 2,_=>⟨_,rfl,rfl,by decide⟩
 | 3,_=>⟨_,rfl,rfl,by decide⟩
 | 4,_=>⟨_,rfl,rfl,by decide⟩
 | 5,_=>⟨_,rfl,rfl,by decide⟩
 | 6,_=>⟨_,rfl,rfl,by decide⟩
 | 7,_=>⟨_,rfl,rfl,by decide⟩
 | 8,_=>⟨_,rfl,rfl,by decide⟩
 | 9,_=>⟨_,rfl,rfl,by decide⟩
 | 10,_=>⟨_,rfl,rfl,by decide⟩
 | j+11,h=>by omega
theorem UF:Tryz.prog.underlying 176=some (.array 11 175):=Tryz.underlying176
theorem afI:(Tryz.prog.info? 176).map (·.size)=some BB.size:=by kernel_rfl
theorem afE:(Tryz.prog.info? 175).map (·.size)=some 3:=by kernel_rfl
def vF(w:World)(b:Nat)(q:ByteArray × Nat × Int):Prop:=w.heap[b]? = some (.cells #[.string q.1,.int .i64 (q.2.1:Int),.int .i64 q.2.2] 175)
theorem vF.new(w:World)(q:ByteArray × Nat × Int):vF (w.alloc (.cells #[.string q.1,.int .i64 (q.2.1:Int),.int .i64 q.2.2] 175)) w.heap.size q:=(lu w _).1
theorem vF.facts {w:World}{b:Nat}{q:ByteArray × Nat × Int}(h:vF w b q):w.cell? ⟨b,0,none⟩=some (.string q.1)∧w.cell? ⟨b,1,none⟩=some (.int .i64 (q.2.1:Int))∧w.cell? ⟨b,2,none⟩=some (.int .i64 q.2.2) :=
 ⟨by rw[cell_of_row w b 0 _ _ _ h];rfl,by rw[cell_of_row w b 1 _ _ _ h];rfl,by rw[cell_of_row w b 2 _ _ _ h];rfl⟩
theorem vF.lt{w:World}{b:Nat}{q:ByteArray × Nat × Int}(h:vF w b q):b<w.heap.size:=(dB.1 h).1
theorem vF.below{w w':World}{B b:Nat}{q:ByteArray × Nat × Int}(h:vF w b q)(hb:Below B w w')(hB:b<B):vF w' b q:=by unfold vF;rw[hb.block b hB];exact h
theorem afG {w:World}{b:Nat}{tv:Value}{ts:List ah}{p deep:Nat}{nv:Value}{vs:List aK}(h:cB w b tv ts p deep nv vs)(n:Nat)(hn:n≤3) :
 Calls Tryz.prog 152 #[.pointer (some ⟨b,0,none⟩),.int .i64 (n:Int)] w fun e w'=>e = .returned (.tuple #[.int .i64 (fH n (ts.drop p)),.bool (decide (fH n (ts.drop p)≠0))])∧Below w.heap.size w w':=by
 obtain⟨ty,fr,EF⟩:=h.ops;have HP:=ae h;clear h;have J9:=ae EF;clear EF;have HK:=ae (afx n (ts.drop p) hn);go_enter Tryz.func152,Tryz.ntmps152;go_upto_region 1 with (fail)
 refine wp_region_lit ?_;refine wpList_load_row rfl 176 (.global 2) rfl 2 rfl ty BB fr _ J9.o UF rfl afI ?_;go_wp2_with fail
 go_loopw [9] (fun i wr=>∃j:Nat,j≤11∧i = .int .i64 j∧Hid (∀q y,q<j→rR[q]? = some y→qJ n (ts.drop p) y=false)∧Hid (Below w.heap.size w wr))
  (fun i _=>11 - (intOf i).toNat)
 case atStart=>exact⟨0,by omega,rfl,ae (by intro q _ hq;omega),ae (ak _ _)⟩
 case round =>
  obtain⟨j,hj,rfl,dR,HB⟩:=hrel;by_cases hlt:j<11
  · have hji:(j:Int)<11:=by omega
    obtain⟨q,hq1,hq2,hq3⟩:=afC j hlt;have sJ:=ae hq1;have mF:=ae hq2;clear hq1 hq2;go_upto_region 3 with (fail)
    refine wp_region_lit ?_;refine aj0 rfl 176 175 11 3 (.tmp 8) (.tmp 9) rfl BB j _ _ UF Tryz.underlying175 rfl afE rfl rfl hlt mF.o ?_;go_upto_region 4 with (fail)
    have hB3:Below wr.heap.size wr (wr.alloc (.cells #[.string q.1,.int .i64 (q.2.1:Int),.int .i64 q.2.2] 175)):=(ak _ _).alloc (aj _) _;have HO:=vF.new wr q;have HB3:=ae (HB.o.trans (hB3.mono HB.o.size));clear hB3 HB mF;generalize wr.alloc (.cells #[.string q.1,.int .i64 (q.2.1:Int),.int .i64 q.2.2] 175)=w3 at HO HB3 ⊢;generalize wr.heap.size=b3 at HO ⊢;obtain⟨x0,x1,x2⟩:=HO.facts;have bg:=ae (HP.o.below HB3.o);by_cases hr:q.2.1=n
    · have er:((q.2.1:Int) == (n:Int))=true:=by rw[bB,hr]
      have HS:=ae (Bn bg.o q.1);cases hs:ay q.1 (ts.drop p)
      · have JW:=ae (show qJ n (ts.drop p) q=false by unfold qJ;rw[hs,Bool.and_false])
        rw[hs]at HS;clear hs hr;go_wp2_with (go_at_call 124;((with_reducible refine HS.o.mono ?_);rintro e w4 ⟨rfl,h1⟩;have cu:=ae (HB3.o.trans (h1.mono HB3.o.size));clear h1))
        go_roundw
        case rel =>
         refine⟨j+1,by omega,by go_num,ae ?_,cu⟩;intro q' y hq' hy;by_cases hqj:q'<j
         · exact dR.o q' y hqj hy
         · rw[show q'=j from by omega,sJ.o]at hy;injection hy with hy;subst hy;exact JW.o
        case measure=>simp[intOf];omega
      · have pz:=ae (show fH n (ts.drop p)=q.2.2 by rw[HK.o,Lc (qJ n (ts.drop p)) rR j q sJ.o (by unfold qJ;rw[hs,aR hr];rfl) dR.o])
        have pE:=ae (show q.2.2≠0 from by
         have:∀q∈rR,q.2.2≠0:=by decide
         exact this q (fe sJ.o))
        rw[hs]at HS;clear hs hr;have gm:=ae HO;clear x0 x1 x2;obtain⟨x0,x1,x2⟩:=gm.o.facts;go_upto_region 5 with (go_at_call 124;((with_reducible refine HS.o.mono ?_);rintro e w4 ⟨rfl,h1⟩;have cu:=ae (HB3.o.trans (h1.mono HB3.o.size));have mg:=ae (gm.o.below h1 gm.o.lt);clear h1))
        clear x0 x1 x2;obtain⟨x0,x1,x2⟩:=mg.o.facts;go_wp2_with fail
        go_ret2
        exact⟨by rw[pz.o,aR pE.o];rfl,cu.o⟩
    · have er:((q.2.1:Int) == (n:Int))=false:=by rw[aA];omega
      have JW:=ae (show qJ n (ts.drop p) q=false by unfold qJ;rw[aV hr,Bool.false_and]);clear hr;go_wp2_with fail
      go_roundw
      case rel =>
       refine⟨j+1,by omega,by go_num,ae ?_,HB3⟩;intro q' y hq' hy;by_cases hqj:q'<j
       · exact dR.o q' y hqj hy
       · rw[show q'=j from by omega,sJ.o]at hy;injection hy with hy;subst hy;exact JW.o
      case measure=>simp[intOf];omega
  · have hji:¬ (j:Int)<11:=by omega
    have pz:=ae (show fH n (ts.drop p)=0 by
     rw[HK.o,Ld (qJ n (ts.drop p)) rR (fun q y hy=>dR.o q y (by have:=(eQ.1 hy).1;have:q<11:=this;omega) hy)])
    go_wp2_with fail
    go_ret2
    exact⟨by rw[pz.o];rfl,HB.o⟩
def wy:Nat→FuncId
 | 0=>92
 | 1=>93
 | 2=>94
 | 3=>95
 | 4=>96
 | _=>97
theorem aaz:∀n:Nat,n<6→∀args (v:World),(callFunc (wy n) args).run Tryz.prog v = .ok (.enter (wy n) args) v
 | 0,_=>Go.Proofs.enters_of Tryz.func92 (by kernel_rfl) rfl
 | 1,_=>Go.Proofs.enters_of Tryz.func93 (by kernel_rfl) rfl
 | 2,_=>Go.Proofs.enters_of Tryz.func94 (by kernel_rfl) rfl
 | 3,_=>Go.Proofs.enters_of Tryz.func95 (by kernel_rfl) rfl
 | 4,_=>Go.Proofs.enters_of Tryz.func96 (by kernel_rfl) rfl
 | 5,_=>Go.Proofs.enters_of Tryz.func97 (by kernel_rfl) rfl
 | n+6,h=>by omega
def zH(b:Nat):Array Value:=#[.func (.func 92) #[.pointer (some ⟨b,0,none⟩)] #[],.func (.func 93) #[.pointer (some ⟨b,0,none⟩)] #[],.func (.func 94) #[.pointer (some ⟨b,0,none⟩)] #[],.func (.func 95) #[.pointer (some ⟨b,0,none⟩)] #[],.func (.func 96) #[.pointer (some ⟨b,0,none⟩)] #[],.func (.func 97) #[.pointer (some ⟨b,0,none⟩)] #[]]
theorem ad8 (b:Nat):∀n:Nat,n<6→(zH b)[n]? = some (.func (.func (wy n)) #[.pointer (some ⟨b,0,none⟩)] #[])
 | 0,_=>rfl
 | 1,_=>rfl
 | 2,_=>rfl
 | 3,_=>rfl
 | 4,_=>rfl
 | 5,_=>rfl
 | n+6,h=>by omega
theorem ad'(b:Nat):(Tryz.prog.info? 143).map (·.size)=some (zH b).size:=by kernel_rfl
theorem ad9 (b:Nat):∀v∈(zH b).toList,v.oneCell'=true:=by
 intro v hv;simp only[zH,ik,List.not_mem_nil,or_false]at hv;rcases hv with rfl|rfl|rfl|rfl|rfl|rfl <;> rfl
theorem below_setRow {B:Nat}{a w:World}{g:Nat}(h:Below B a w)(hg:B≤g)(cs:Array Value):Below B a (w.setRow g cs) :=
 ⟨h.os,h.tape,h.output,by simpa using h.size,fun j hj=>by rw[Go.setRow_other w g j cs (by omega)];exact h.block j hj⟩
theorem Mr (b n:Nat)(hn:n<6)(w:World)(R:Ending→World→Prop)(hR:∀e w',R e w'→∃c,e = .returned (.int .i64 c))(hc:∀w',Below w.heap.size w w'→Calls Tryz.prog (wy n) #[.pointer (some ⟨b,0,none⟩)] w' R) :
 Calls Tryz.prog 68 #[.pointer (some ⟨b,0,none⟩),.int .i64 (n:Int)] w R:=by
 have HC:=ae hc;clear hc;have HRR:=ae hR;clear hR;have yt:=aaz n hn;have HAT:=ae (ad8 b n hn);have hi1:(0:Int)≤(n:Int):=by omega
 have hi2:(n:Int)<6:=by omega
 obtain⟨F,hF⟩:∃F,wy n=F:=⟨_,rfl⟩;rw[hF]at HC yt HAT;have hh:(w.alloc (.cells #[.nilFunc,.nilFunc,.nilFunc,.nilFunc,.nilFunc,.nilFunc] 143)).heap[w.heap.size]? = some (.cells #[.nilFunc,.nilFunc,.nilFunc,.nilFunc,.nilFunc,.nilFunc] 143):=(lu w _).1;have HB:=ae (below_setRow ((ak w.heap.size w).alloc (aj _) (.cells #[.nilFunc,.nilFunc,.nilFunc,.nilFunc,.nilFunc,.nilFunc] 143)) (aj _) (zH b));have HW:=ae (setRow_heap _ w.heap.size _ (zH b) _ _ hh);have HH:=ae hh;clear hF hh;go_enter Tryz.func68,Tryz.ntmps68;go_upto_region 2 with ((with_reducible refine wpList_store_row (op:=⟨none,.store 143 (.tmp 5) (.tmp 18),_,_,_,_⟩) rfl 143 (.tmp 5) (.tmp 18) rfl w.heap.size 143 _ (zH b) ?_ ?_ HH.o ?_ (ad' b) (ad9 b) ?_);rfl;rfl;rfl)
 generalize (w.alloc (.cells #[.nilFunc,.nilFunc,.nilFunc,.nilFunc,.nilFunc,.nilFunc] 143)).setRow w.heap.size (zH b)=w1 at HB HW ⊢
 have hce:w1.cell? ⟨w.heap.size,n,none⟩=some (.func (.func F) #[.pointer (some ⟨b,0,none⟩)] #[]):=by
  rw[cell_of_row w1 w.heap.size n _ _ _ HW.o];exact HAT.o
 go_wp2_with fail
 refine(HC.o w1 HB.o).mono ?_;intro e w2 hr;obtain⟨c,rfl⟩:=HRR.o e w2 hr;have HR:=ae hr;clear hr;go_wp2_with fail
 exact HR.o
theorem aaJ (b:Nat)(w:World)(R:Ending→World→Prop)(hR:∀e w',R e w'→∃c,e = .returned (.int .i64 c))(hc:Calls Tryz.prog 123 #[.pointer (some ⟨b,0,none⟩),.int .i64 0] w R) :
 Calls Tryz.prog 92 #[.pointer (some ⟨b,0,none⟩)] w R:=by
 have HC:=ae hc;have HRR:=ae hR;clear hc hR;go_enter Tryz.func92,Tryz.ntmps92;go_wp2_with (go_at_call 123;((with_reducible refine HC.o.mono ?_);intro e w2 hr;obtain⟨c,rfl⟩:=HRR.o e w2 hr;have HR:=ae hr;clear hr))
 exact HR.o
theorem ZX (b:Nat)(w:World)(R:Ending→World→Prop)(hR:∀e w',R e w'→∃c,e = .returned (.int .i64 c))(hc:Calls Tryz.prog 123 #[.pointer (some ⟨b,0,none⟩),.int .i64 1] w R) :
 Calls Tryz.prog 93 #[.pointer (some ⟨b,0,none⟩)] w R:=by
 have HC:=ae hc;have HRR:=ae hR;clear hc hR;go_enter Tryz.func93,Tryz.ntmps93;go_wp2_with (go_at_call 123;((with_reducible refine HC.o.mono ?_);intro e w2 hr;obtain⟨c,rfl⟩:=HRR.o e w2 hr;have HR:=ae hr;clear hr))
 exact HR.o
theorem aiX (b:Nat)(w:World)(R:Ending→World→Prop)(hR:∀e w',R e w'→∃c,e = .returned (.int .i64 c))(hc:Calls Tryz.prog 123 #[.pointer (some ⟨b,0,none⟩),.int .i64 2] w R) :
 Calls Tryz.prog 94 #[.pointer (some ⟨b,0,none⟩)] w R:=by
 have HC:=ae hc;have HRR:=ae hR;clear hc hR;go_enter Tryz.func94,Tryz.ntmps94;go_wp2_with (go_at_call 123;((with_reducible refine HC.o.mono ?_);intro e w2 hr;obtain⟨c,rfl⟩:=HRR.o e w2 hr;have HR:=ae hr;clear hr))
 exact HR.o
theorem ai5 (b:Nat)(w:World)(R:Ending→World→Prop)(hR:∀e w',R e w'→∃c,e = .returned (.int .i64 c))(hc:Calls Tryz.prog 123 #[.pointer (some ⟨b,0,none⟩),.int .i64 3] w R) :
 Calls Tryz.prog 95 #[.pointer (some ⟨b,0,none⟩)] w R:=by
 have HC:=ae hc;have HRR:=ae hR;clear hc hR;go_enter Tryz.func95,Tryz.ntmps95;go_wp2_with (go_at_call 123;((with_reducible refine HC.o.mono ?_);intro e w2 hr;obtain⟨c,rfl⟩:=HRR.o e w2 hr;have HR:=ae hr;clear hr))
 exact HR.o
theorem lv0:wy 0=92:=rfl
theorem lv1:wy 1=93:=rfl
theorem lv2:wy 2=94:=rfl
theorem lv3:wy 3=95:=rfl
theorem lv4:wy 4=96:=rfl
theorem lv5:wy 5=97:=rfl
theorem adR (b:Nat)(w:World)(R:Ending→World→Prop)(hR:∀e w',R e w'→∃c,e = .returned (.int .i64 c))(n:Nat)(hn:n≤3)(hc:∀w',Below w.heap.size w w'→Calls Tryz.prog 123 #[.pointer (some ⟨b,0,none⟩),.int .i64 (n:Int)] w' R) :
 Calls Tryz.prog 68 #[.pointer (some ⟨b,0,none⟩),.int .i64 (n:Int)] w R:=by
 refine Mr b n (by omega) w R hR fun w' hb => ?_
 have h:=hc w' hb;obtain⟨i,hi⟩:∃i:Int,(n:Int)=i:=⟨_,rfl⟩;rw[hi]at h;rcases(show n=0∨n=1∨n=2∨n=3 by omega)with e|e|e|e
 · rw[e,lv0];rw[show i=0 by omega]at h;exact aaJ b w' R hR h
 · rw[e,lv1];rw[show i=1 by omega]at h;exact ZX b w' R hR h
 · rw[e,lv2];rw[show i=2 by omega]at h;exact aiX b w' R hR h
 · rw[e,lv3];rw[show i=3 by omega]at h;exact ai5 b w' R hR h
theorem Elem.dP:∃n,n≤200∧Elem Tryz.prog 24 44 14 n:=⟨136,by omega,Tryz.underlying24,⟨.agg (nB 0 0 ⟨#[]⟩ (.slice none 0 0)),by kernel_rfl,rfl⟩,by decide⟩
theorem zJ:(Tryz.prog.info? 44).map (·.size)=some 14:=by kernel_rfl
def az(w:World)(b:Nat)(n:Nd)(k:Value):Prop:=w.heap[b]? = some (.cells (bA n k) 44)
theorem az.new(w:World)(n:Nd)(k:Value):az (w.alloc (.cells (bA n k) 44)) w.heap.size n k:=(lu w _).1
theorem az.below{w w':World}{B b:Nat}{n:Nd}{k:Value}(h:az w b n k)(hb:Below B w w')(hB:b<B):az w' b n k:=by unfold az;rw[hb.block b hB];exact h
theorem az.lt{w:World}{b:Nat}{n:Nd}{k:Value}(h:az w b n k):b<w.heap.size:=(dB.1 h).1
theorem az.cells {w:World}{b:Nat}{n:Nd}{k:Value}(h:az w b n k):w.cell? ⟨b,0,none⟩=some (.int .i64 n.kind)∧w.cell? ⟨b,1,none⟩=some (.int .i64 n.num)∧w.cell? ⟨b,2,none⟩=some (.string n.text)∧w.cell? ⟨b,3,none⟩=some (.string n.ref.sh)∧w.cell? ⟨b,4,none⟩=some (.int .i64 n.ref.c)∧w.cell? ⟨b,5,none⟩=some (.int .i64 n.ref.r)∧w.cell? ⟨b,6,none⟩=some (.bool n.ref.ac)∧w.cell? ⟨b,7,none⟩=some (.bool n.ref.ar)∧w.cell? ⟨b,8,none⟩=some (.string n.ai.sh)∧w.cell? ⟨b,9,none⟩=some (.int .i64 n.ai.c)∧w.cell? ⟨b,10,none⟩=some (.int .i64 n.ai.r)∧w.cell? ⟨b,11,none⟩=some (.bool n.ai.ac)∧w.cell? ⟨b,12,none⟩=some (.bool n.ai.ar)∧w.cell? ⟨b,13,none⟩=some k :=
 ⟨by rw[cell_of_row w b 0 _ _ _ h];rfl,by rw[cell_of_row w b 1 _ _ _ h];rfl,by rw[cell_of_row w b 2 _ _ _ h];rfl,by rw[cell_of_row w b 3 _ _ _ h];rfl,by rw[cell_of_row w b 4 _ _ _ h];rfl,by rw[cell_of_row w b 5 _ _ _ h];rfl,by rw[cell_of_row w b 6 _ _ _ h];rfl,by rw[cell_of_row w b 7 _ _ _ h];rfl,by rw[cell_of_row w b 8 _ _ _ h];rfl,by rw[cell_of_row w b 9 _ _ _ h];rfl,by rw[cell_of_row w b 10 _ _ _ h];rfl,by rw[cell_of_row w b 11 _ _ _ h];rfl,by rw[cell_of_row w b 12 _ _ _ h];rfl,by rw[cell_of_row w b 13 _ _ _ h];rfl⟩
theorem cB.row {w:World}{b:Nat}{tv:Value}{ts:List ah}{p deep:Nat}{nv:Value}{vs:List aK}(h:cB w b tv ts p deep nv vs):∀g,nv.ownBlock=some g→b<g∧Cm w g:=by
 intro g e;rcases h.nodes.1.2 with ⟨h1,_⟩|⟨g',cap,cur,h1,h2,h3,_⟩
 · rw[h1]at e;cases e
 · rw[h1]at e;injection e with e
   have e:g'=g:=e;subst e;exact⟨by omega,cur,_,h3⟩
theorem cB.Lg {w w':World}{b:Nat}{tv:Value}{ts:List ah}{p deep:Nat}{nv:Value}{vs:List aK}(h:cB w b tv ts p deep nv vs)(hg:w.grownBy w' nv.ownBlock):w'.cell? ⟨b,3,none⟩=some nv∧w'.frozen? ⟨b,3,none⟩=false:=by
 have hbb:w'.heap[b]? = w.heap[b]? := hg.block b h.blt (by intro e;have:=(h.row b e.symm).1;omega);have hc:=hbb.trans h.cell;exact⟨by rw[cell_of_row w' b 3 _ _ _ hc];rfl,frozen_of_row w' b 3 _ _ hc⟩
theorem cB.grow {w w':World}{b:Nat}{tv:Value}{ts:List ah}{p deep:Nat}{nv bu:Value}{vs:List aK}{v:aK}(h:cB w b tv ts p deep nv vs)(hg:w.grownBy w' nv.ownBlock)(ho:Own qD 44 w' (b+1) bu (vs++[v]))
 (hk:Own (aJ .i64) 3 w (b+1) v.aY v.n.kids) (hc:vs.length+1≤p):cB (w'.setCell ⟨b,3,none⟩ bu) b tv ts p deep bu (vs++[v])∧Fr w (w'.setCell ⟨b,3,none⟩ bu) b:=by
 have Bd:=h.row;have hfr:Fr w w' b:=(Fr.refl w b).row hg (fun g e=>⟨(Bd g e).1,.inr (Bd g e).2⟩);have hbb:w'.heap[b]? = w.heap[b]? := hg.block b h.blt (by intro e;have:=(Bd b e.symm).1;omega);refine⟨⟨?_, ?_,⟨ho.keep fun j hj _ _=>gy _ _ _ _ (by show j≠b;omega), ?_⟩, ?_,h.lt,h.low,h.fit,h.few,by rw[ax,fo];exact hc,h.nest⟩,hfr.setCell _ _⟩
 · rw[heap_setCell_same w' b 3 _ _ _ (hbb.trans h.cell)];rfl
 · have h1:Az w' b tv ts:=by
    obtain⟨g,cap,h1,h2,h3⟩:=h.qR;exact⟨g,cap,h1,h2,h3.keep fun j _ hj e=>hfr.block j hj (by rw[h1]at e;injection e with e;have:g=j:=e;omega) (.inl (by rw[h1]at e;injection e with e;have:g=j:=e;omega))⟩
   exact h1.set _ _
 · intro u hu
   have h1:Own (aJ .i64) 3 w (b+1) u.aY u.n.kids:=by
    rcases dQ.1 hu with hu|hu
    · exact h.nodes.2 u hu
    · rw[gM.1 hu];exact hk
   exact(h1.fr hfr (by omega) (by decide)).keep fun j hj _ _=>gy _ _ _ _ (by show j≠b;omega)
 · have h1:nY w':=h.ops.keep (hfr.block _ h.ops.lt (by have:=h.low;omega) (.inl (by have:=h.low;omega)))
   exact h1.set h.low _ _
theorem Ej {w:World}{b:Nat}{tv:Value}{ts:List ah}{p deep:Nat}{nv:Value}{vs:List aK}(h:cB w b tv ts p deep nv vs)(v:aK)(hk:Own (aJ .i64) 3 w (b+1) v.aY v.n.kids)(hc:vs.length+1≤p)(k:Value)(kI:v.aY=k)(n:Nd)(hn:v.n=n) :
 Calls Tryz.prog 126 #[.pointer (some ⟨b,0,none⟩),.agg (aB n k)] w fun e w'=>Fr w w' b∧e = .returned (.tuple #[])∧∃bu,cB w' b tv ts p deep bu (vs++[v]):=by
 (try unfold aB)
 obtain⟨eb,jW,df⟩:=Elem.dP;have hal:Below w.heap.size w (w.alloc (.cells (aB n k) 44)):=(ak _ _).alloc (aj _) _;have bK:=ae (h.below hal);have jH:=ae (hk.alloc (.cells (aB n k) 44));have hx:az (w.alloc (.cells (aB n k) 44)) w.heap.size n k:=az.new w n k;have h2:=h.few;have h3:=h.lt;have hbl:=h.blt;have hsz:(w.alloc (.cells (aB n k) 44)).heap.size=w.heap.size+1:=by simp
 have jw:=ae df;have bz:=ae hal;clear h hk df hal;go_enter Tryz.func126,Tryz.ntmps126;go_wp2_with fail
 generalize w.alloc (.cells (aB n k) 44)=w1 at bK jH bz hx hsz ⊢;obtain⟨x0,x1,x2,x3,x4,x5,x6,x7,av,aI,aF,aG,aH,aC⟩:=hx.cells;obtain⟨c0,c1,c2,c3⟩:=bK.o.facts;have f3:=bK.o.frozen 3;clear hx c0 c1 c2;have D7:=ae (bK.o.drew.below ((ak _ _).alloc (aj _) (.cells (aB n k) 44)))
 go_region_law (refine NU jw.o qD rfl (.tmp 8) (.tmp 10) rfl (b+1) nv vs ?_ (bK.o.nodes.1.drew.alloc _) ⟨w1.heap.size,0,none⟩ 1 1 [v] ?_ rfl ?_ ?_ ?_ ?_ ?_;go_simp;go_simp;(subst kI;subst hn;exact gD (w:=w1.drew) _ _ _ rfl);exact bN (Nat.mul_le_mul_left _ jW) (by omega);(unfold maxLen;omega);(simp <;> omega);intro v' oM h1 h2 h4;obtain⟨g1,fu,rfl,hg0,hg1,hg2,hg3⟩:=Own.some h1 (by simp);obtain⟨d1,d2⟩:=D7.o.Lg h2;have HO:=ae h1;have HG:=ae h2;clear h1 h2 h4)
 all_goals
  go_wp2_with fail
  obtain⟨q1,q2⟩:=D7.o.grow HG.o HO.o (jH.o.drew.alloc _) hc;rw[ax,fo]at q1 q2;have hF:=(((Fr.of b bz.o).drew).below ((ak _ _).alloc (aj _) (.cells (aB n k) 44))).trans q2
  first
   | exact bodyPost_ret (results_none rfl _ _ _) rfl ⟨hF,rfl,_,q1⟩
   | (go_end0;exact⟨hF,rfl,_,q1⟩)
def Out (res:eT)(w:World)(b:Nat)(tv:Value)(ts:List ah)(deep:Nat)(vs:List aK)(e:Ending)(w':World):Prop :=
 Fr w w' b∧((∃c,res = .error c∧(c=5∨c=6)∧e = .returned (.int .i64 c)) ∨
  (∃ms a r,res = .ok (ms,a,r)∧e = .returned (.int .i64 0)∧∃p' bu us,ts.drop p'=r∧us.map aK.n=ms∧(∀u∈us,∀g,u.aY.ownBlock=some g→w.heap.size≤g)∧cB w' b tv ts p' deep bu (vs++us)))
def aK.leaf(n:Nd):aK:=⟨n,none⟩
theorem yC (w:World)(lo:Nat)(n:Nd)(h:n.kids=[]):Own (aJ .i64) 3 w lo (aK.leaf n).aY (aK.leaf n).n.kids:=by
 show Own (aJ .i64) 3 w lo (.slice none 0 0) n.kids;rw[h];exact Own.nil _ _ _ _
theorem CQ {w:World}{b:Nat}{tv:Value}{ts:List ah}{p deep:Nat}{nv:Value}{vs:List aK}(h:cB w b tv ts p deep nv vs)(hnx:p+1<ts.length)(n:Nd)(hn:n.kids=[]) :
 Calls Tryz.prog 128 #[.pointer (some ⟨b,0,none⟩),.agg (aB n (.slice none 0 0))] w fun e w'=>Fr w w' b∧e = .returned (.int .i64 0)∧∃bu,cB w' b tv ts (p+1) deep bu (vs++[aK.leaf n]):=by
 (try unfold aB)
 have hal:Below w.heap.size w (w.alloc (.cells (aB n (.slice none 0 0)) 44)):=(ak _ _).alloc (aj _) _;have bK:=ae (h.below hal);have hx:az (w.alloc (.cells (aB n (.slice none 0 0)) 44)) w.heap.size n (.slice none 0 0):=az.new w n _;have h2:=h.few;have h4:=h.cnt;have hbl:=h.blt;have hsz:(w.alloc (.cells (aB n (.slice none 0 0)) 44)).heap.size=w.heap.size+1:=by simp
 have bz:=ae hal;clear h hal;go_enter Tryz.func128,Tryz.ntmps128;go_upto_region 1 with (fail)
 generalize w.alloc (.cells (aB n (.slice none 0 0)) 44)=w1 at bK bz hx hsz ⊢;obtain⟨c0,c1,c2,c3⟩:=bK.o.facts;have f1:=bK.o.frozen 1;clear c0 c2 c3;go_upto_region 2 with (fail)
 have dm:=ae (bK.o.next hnx);have dw:=ae (show az (w1.setCell ⟨b,1,none⟩ (.int .i64 ((p:Int)+1))) w.heap.size n (.slice none 0 0)from by unfold az;rw[gy _ _ _ _ (by show w.heap.size≠b;omega)];exact hx);have bT:=ae ((Fr.of b bz.o).setCell 1 (.int .i64 ((p:Int)+1)));clear c1 f1 hx bK bz hsz;generalize w1.setCell ⟨b,1,none⟩ (.int .i64 ((p:Int)+1))=w2 at dm dw bT ⊢;obtain⟨x0,x1,x2,x3,x4,x5,x6,x7,av,aI,aF,aG,aH,aC⟩:=dw.o.cells;have HA:=ae (Ej dm.o (aK.leaf n) (yC _ _ n hn) (by omega) (.slice none 0 0) rfl n rfl);go_wp2_with (go_at_call 126;((with_reducible refine HA.o.mono ?_);rintro e w3 ⟨h1,rfl,bu,h3⟩;have dY:=ae (bT.o.trans h1);have bg:=ae h3;clear h1 h3))
 go_ret;exact⟨dY.o,rfl,_,bg.o⟩
theorem pU:(⟨#[]⟩:ByteArray).toList=[]:=by rw[qH]
theorem Ta (s1 s2:ByteArray)(c1 r1 c2 r2:Int)(a1 b1 a2 b2:Bool)(w:World) :
 Calls Tryz.prog 83 #[.agg #[.string s1,.int .i64 c1,.int .i64 r1,.bool a1,.bool b1],.agg #[.string s2,.int .i64 c2,.int .i64 r2,.bool a2,.bool b2]] w fun e w'=>e = .returned (.bool (fI ⟨s1,c1,r1,a1,b1⟩ ⟨s2,c2,r2,a2,b2⟩))∧Below w.heap.size w w':=by
 have hsz:(w.alloc (.cells #[.string s1,.int .i64 c1,.int .i64 r1,.bool a1,.bool b1] 42)).heap.size=w.heap.size+1:=by simp
 have h1:=dz.new w s1 c1 r1 a1 b1;have h2:=dz.new (w.alloc (.cells #[.string s1,.int .i64 c1,.int .i64 r1,.bool a1,.bool b1] 42)) s2 c2 r2 a2 b2;have h3:=h1.below ((ak _ _).alloc (aj _) (.cells #[.string s2,.int .i64 c2,.int .i64 r2,.bool a2,.bool b2] 42)) h1.lt;rw[hsz]at h2;have HB:=ae (((ak w.heap.size w).alloc (aj _) (.cells #[.string s1,.int .i64 c1,.int .i64 r1,.bool a1,.bool b1] 42)).alloc (by simp) (.cells #[.string s2,.int .i64 c2,.int .i64 r2,.bool a2,.bool b2] 42));have HS:=ae (show fI ⟨s1,c1,r1,a1,b1⟩ ⟨s2,c2,r2,a2,b2⟩=(decide (s2=⟨#[]⟩)&&(decide (c1≤c2)&&decide (r1≤r2)))from rfl);clear h1;go_enter Tryz.func83,Tryz.ntmps83;go_upto_region 1 with (fail)
 generalize (w.alloc (.cells #[.string s1,.int .i64 c1,.int .i64 r1,.bool a1,.bool b1] 42)).alloc (.cells #[.string s2,.int .i64 c2,.int .i64 r2,.bool a2,.bool b2] 42)=w1 at h2 h3 HB ⊢;obtain⟨x0,x1,x2,x3,x4⟩:=h2.facts;obtain⟨y0,y1,y2,y3,y4⟩:=h3.facts;clear h2 h3;by_cases hs:s2=⟨#[]⟩
 · subst hs
   have e0:=pU;by_cases hc:c1≤c2
   · by_cases hr:r1≤r2
     · have HT:=ae (show fI ⟨s1,c1,r1,a1,b1⟩ ⟨⟨#[]⟩,c2,r2,a2,b2⟩=true by rw[HS.o,aR hc,aR hr];rfl)
       go_wp2_with fail
       go_ret;exact⟨by rw[HT.o];rfl,HB.o⟩
     · have HT:=ae (show fI ⟨s1,c1,r1,a1,b1⟩ ⟨⟨#[]⟩,c2,r2,a2,b2⟩=false by rw[HS.o,aR hc,aV hr];rfl)
       go_wp2_with fail
       go_ret;exact⟨by rw[HT.o];rfl,HB.o⟩
   · have HT:=ae (show fI ⟨s1,c1,r1,a1,b1⟩ ⟨⟨#[]⟩,c2,r2,a2,b2⟩=false by rw[HS.o,aV hc];rfl)
     go_wp2_with fail
     go_ret;exact⟨by rw[HT.o];rfl,HB.o⟩
 · have HT:=ae (show fI ⟨s1,c1,r1,a1,b1⟩ ⟨s2,c2,r2,a2,b2⟩=false by rw[HS.o,aV hs];rfl)
   have e0:¬ s2.toList=[]:=by rw[← pU];exact pg _ _ hs
   have e1:s2.toList.isEmpty=false:=by simpa using e0
   clear hs;go_wp2_with fail
   go_ret;exact⟨by rw[HT.o];rfl,HB.o⟩
theorem Out.leaf {res:eT}{w w':World}{b:Nat}{tv:Value}{ts:List ah}{deep p':Nat}{vs:List aK}{bu:Value}{n:Nd}{a:Nat}{r:List ah}(hr:res = .ok ([n],a,r))(hf:Fr w w' b)(hp:ts.drop p'=r)(h:cB w' b tv ts p' deep bu (vs++[aK.leaf n])):Out res w b tv ts deep vs (.returned (.int .i64 0)) w' :=
 ⟨hf,.inr ⟨[n],a,r,hr,rfl,p',bu,[aK.leaf n],hp,rfl,(by intro u hu g hg;rw[gM.1 hu]at hg;cases hg),h⟩⟩
theorem Out.err{res:eT}{w w':World}{b:Nat}{tv:Value}{ts:List ah}{deep:Nat}{vs:List aK}{c:Int}(hr:res = .error c)(hc:c=5∨c=6)(hf:Fr w w' b):Out res w b tv ts deep vs (.returned (.int .i64 c)) w':=⟨hf,.inl ⟨c,hr,hc,rfl⟩⟩
theorem dz.set {w:World}{b:Nat}{s:ByteArray}{c r:Int}{ac ar:Bool}(h:dz w b s c r ac ar){g:Nat}(hg:b≠g)(o:Nat)(v:Value):dz (w.setCell ⟨g,o,none⟩ v) b s c r ac ar:=by
 unfold dz;rw[gy _ _ _ _ (by exact hg)];exact h
theorem dz.fr {w w':World}{b g:Nat}{s:ByteArray}{c r:Int}{ac ar:Bool}(h:dz w g s c r ac ar)(hf:Fr w w' b)(hg:g≠b):dz w' g s c r ac ar:=by
 unfold dz;rw[hf.block g h.lt hg (.inr (by rintro⟨cur,fr,e⟩;unfold dz at h;rw[h]at e;injection e with e;injection e with _ e;exact absurd e (by decide)))];exact h
theorem af4 {w:World}{b:Nat}{tv:Value}{ts:List ah}{p deep:Nat}{nv:Value}{vs:List aK}(h:cB w b tv ts p deep nv vs)(t:ah)(hnx:p+1<ts.length)(base:Nat) :
 Calls Tryz.prog 129 #[.pointer (some ⟨b,0,none⟩),.agg #[.string t.sh,.int .i64 t.c,.int .i64 t.r,.bool t.ac,.bool t.ar]] w (Out (jM base t (ts.drop (p+1))) w b tv ts deep vs):=by
 have hal:Below w.heap.size w (w.alloc (.cells #[.string t.sh,.int .i64 t.c,.int .i64 t.r,.bool t.ac,.bool t.ar] 42)):=(ak _ _).alloc (aj _) _;have bK:=ae (h.below hal);have hx:=dz.new w t.sh t.c t.r t.ac t.ar;have h2:=h.few;have hct:=h.cnt;have hbl:=h.blt;have bz:=ae hal;clear h hal;go_enter Tryz.func129,Tryz.ntmps129;go_upto_region 1 with (fail)
 generalize w.alloc (.cells #[.string t.sh,.int .i64 t.c,.int .i64 t.r,.bool t.ac,.bool t.ar] 42)=w1 at bK bz hx ⊢;obtain⟨c0,c1,c2,c3⟩:=bK.o.facts;have f1:=bK.o.frozen 1;clear c0 c2 c3;go_upto_region 2 with (fail)
 have dm:=ae (bK.o.next hnx);have dw:=ae (hx.set (show w.heap.size≠b by omega) 1 (.int .i64 ((p:Int)+1)));have bT:=ae ((Fr.of b bz.o).setCell 1 (.int .i64 ((p:Int)+1)));clear c1 f1 hx bK bz;generalize w1.setCell ⟨b,1,none⟩ (.int .i64 ((p:Int)+1))=w2 at dm dw bT ⊢;have HT:=ae (M7 dm.o ⟨#[58]⟩);have hw0:w.heap.size≠b:=by omega
 cases hq:ay ⟨#[58]⟩ (ts.drop (p+1))
 · rw[hq,af (by decide)]at HT
   have HR:=ae (show jM base t (ts.drop (p+1)) = .ok ([{ Nd.zero with kind:=5,ref:=t.dS }],base,ts.drop (p+1))by unfold jM;rw[hq,af (by decide)]);clear hq;go_upto_region 3 with (go_at_call 153;((with_reducible refine HT.o.mono ?_);rintro e w3 ⟨h1,rfl,h3⟩;have dY:=ae (bT.o.trans h1);have fq:=ae (dw.o.fr h1 hw0);have bg:=ae h3;clear h1 h3))
   obtain⟨x0,x1,x2,x3,x4⟩:=fq.o.facts;have HA:=ae (show Calls Tryz.prog 126 #[.pointer (some ⟨b,0,none⟩),.agg #[.int .i64 5,.int .i64 0,.string ⟨#[]⟩,.string t.sh,.int .i64 t.c,.int .i64 t.r,.bool t.ac,.bool t.ar,.string ⟨#[]⟩,.int .i64 0,.int .i64 0,.bool false,.bool false,.slice none 0 0]] w3 _ from Ej bg.o (aK.leaf { Nd.zero with kind:=5,ref:=t.dS }) (yC _ _ _ rfl) (by omega) (.slice none 0 0) rfl { Nd.zero with kind:=5,ref:=t.dS } rfl);go_wp2_with (go_at_call 126;((with_reducible refine HA.o.mono ?_);rintro e w4 ⟨h1,rfl,bu,h3⟩;have eD:=ae (dY.o.trans h1);have bS:=ae h3;clear h1 h3))
   go_ret;exact Out.leaf HR.o eD.o rfl bS.o
 · have yz:=BJ dm.o hq
   rw[hq,ag rfl]at HT;obtain⟨u,hu⟩:∃u,ts[p+2]? = some u:=⟨_,cZ yz⟩
   have hd:(ts.drop (p+1)).tail=u :: ts.drop (p+3):=by
    rw[List.tail_drop,List.drop_eq_getElem_cons yz];rw[cZ yz]at hu;rw[dM hu]
   have hR:jM base t (ts.drop (p+1))=if u.kind=4∧fI t.dS u.dS=true then .ok ([(⟨6,0,⟨#[]⟩,t.dS,u.dS,[]⟩:Nd)],base,ts.drop (p+3))else .error 5:=by
    unfold jM;rw[hq,ag rfl,hd] <;> rfl
   clear hq hd
   go_upto_region 6 with (first
    | (go_at_call 153;((with_reducible refine HT.o.mono ?_);rintro e w3 ⟨h1,rfl,h3⟩;have dY:=ae (bT.o.trans h1);have fq:=ae (dw.o.fr h1 hw0);have bg:=ae h3;have aT:=ae (Iy h3 u hu);clear h1 h3))
    | (go_at_call 69;((with_reducible refine aT.o.mono ?_);rintro e w4 ⟨rfl,h1⟩;have eD:=ae (dY.o.below h1);have oQ:=ae (fq.o.below h1 fq.o.lt);have bS:=ae (bg.o.below h1);clear h1)))
   have hB:Below w4.heap.size w4 (w4.alloc (.cells (tA u (.int .i64 u.pos)) 113)):=(ak _ _).alloc (aj _) _;have gN:aN (w4.alloc (.cells (tA u (.int .i64 u.pos)) 113)) w4.heap.size u:=aN.new w4 u;have bq:=ae (eD.o.below hB);have oU:=ae (oQ.o.below hB oQ.o.lt);have aS:=ae (bS.o.below hB);clear hB dY fq bg aT eD oQ bS HT dw dm bT;generalize hb4:w4.heap.size=b4 at gN ⊢;generalize w4.alloc (.cells (tA u (.int .i64 u.pos)) 113)=w5 at gN bq oU aS ⊢;clear hb4;obtain⟨x0,x1,x2,x3,x4,x5,x6,x7,av⟩:=gN.cells;obtain⟨y0,y1,y2,y3,y4⟩:=oU.o.facts;by_cases h4:u.kind=4
   · have e4:(u.kind != 4)=false:=by rw[h4];rfl
     have e5:(u.kind == 4)=true:=bB.2 h4;have HI:=ae (Ta t.sh u.sh t.c t.r u.c u.r t.ac t.ar u.ac u.ar w5);cases hs:fI t.dS u.dS
     · have HR:=ae (show jM base t (ts.drop (p+1)) = .error 5 by rw[hR,hs,af (by simp)])
       have HS:=ae (show fI ⟨t.sh,t.c,t.r,t.ac,t.ar⟩ ⟨u.sh,u.c,u.r,u.ac,u.ar⟩=false from hs);rw[HS.o]at HI;clear hR hs h4;go_wp2_with (go_at_call 83;((with_reducible refine HI.o.mono ?_);rintro e w6 ⟨rfl,h1⟩;have eG:=ae (bq.o.below h1);clear h1))
       go_ret;exact Out.err HR.o (.inl rfl) eG.o
     · have HR:=ae (show jM base t (ts.drop (p+1)) = .ok ([(⟨6,0,⟨#[]⟩,t.dS,u.dS,[]⟩:Nd)],base,ts.drop (p+3))by rw[hR,hs,ag ⟨h4,rfl⟩])
       have HS:=ae (show fI ⟨t.sh,t.c,t.r,t.ac,t.ar⟩ ⟨u.sh,u.c,u.r,u.ac,u.ar⟩=true from hs);rw[HS.o]at HI;have eu:=ae (aS.o.fit.next hu (by omega));have gN:=ae gN;clear hR hs h4 x0 x1 x2 x3 x4 x5 x6 x7 av y0 y1 y2 y3 y4;obtain⟨x0,x1,x2,x3,x4,x5,x6,x7,av⟩:=gN.o.cells;obtain⟨y0,y1,y2,y3,y4⟩:=oU.o.facts;go_upto_region 8 with (go_at_call 83;((with_reducible refine HI.o.mono ?_);rintro e w6 ⟨rfl,h1⟩;have eG:=ae (bq.o.below h1);have bU:=ae (aS.o.below h1);have F8:=ae (oU.o.below h1 oU.o.lt);have ug:=ae (gN.o.below h1 gN.o.lt);clear h1))
       clear x0 x1 x2 x3 x4 x5 x6 x7 av y0 y1 y2 y3 y4;obtain⟨x0,x1,x2,x3,x4,x5,x6,x7,av⟩:=ug.o.cells;obtain⟨y0,y1,y2,y3,y4⟩:=F8.o.facts;have HA:=ae (show Calls Tryz.prog 128 #[.pointer (some ⟨b,0,none⟩),.agg #[.int .i64 6,.int .i64 0,.string ⟨#[]⟩,.string t.sh,.int .i64 t.c,.int .i64 t.r,.bool t.ac,.bool t.ar,.string u.sh,.int .i64 u.c,.int .i64 u.r,.bool u.ac,.bool u.ar,.slice none 0 0]] w6 _ from CQ bU.o eu.o (⟨6,0,⟨#[]⟩,t.dS,u.dS,[]⟩:Nd) rfl);go_wp2_with (go_at_call 128;((with_reducible refine HA.o.mono ?_);rintro e w7 ⟨h1,rfl,bu,h3⟩;have cz:=ae (eG.o.trans h1);have bO:=ae h3;clear h1 h3))
       go_ret;exact Out.leaf HR.o cz.o rfl bO.o
   · have e4:(u.kind != 4)=true:=by rw[bne_iff_ne];exact h4
     have e5:(u.kind == 4)=false:=aA.2 h4;have HR:=ae (show jM base t (ts.drop (p+1)) = .error 5 by rw[hR,af (fun h=>h4 h.1)]);clear hR h4;go_wp2_with fail
     go_ret;exact Out.err HR.o (.inl rfl) bq.o
theorem Out.ret {res:eT}{w w':World}{b:Nat}{tv:Value}{ts:List ah}{deep:Nat}{vs:List aK}{e:Ending}(h:Out res w b tv ts deep vs e w'):∃c,e = .returned (.int .i64 c):=by
 rcases h.2 with ⟨c,_,_,h⟩|⟨_,_,_,_,h,_⟩
 · exact⟨c,h⟩
 · exact⟨0,h⟩
theorem Out.bad {res:eT}{w w':World}{b:Nat}{tv:Value}{ts:List ah}{deep:Nat}{vs:List aK}{e:Ending}{c:Int}(h:Out res w b tv ts deep vs e w')(hr:res = .error c):Fr w w' b∧(c=5∨c=6)∧e = .returned (.int .i64 c):=by
 rcases h.2 with ⟨c',h1,h2,h3⟩|⟨ms,a,r,h1,_⟩
 · rw[hr]at h1;injection h1 with h1;subst h1;exact⟨h.1,h2,h3⟩
 · rw[hr]at h1;cases h1
theorem Out.sU {res:eT}{w w':World}{b:Nat}{tv:Value}{ts:List ah}{deep:Nat}{vs:List aK}{e:Ending}{ms:List Nd}{a:Nat}{r:List ah}(h:Out res w b tv ts deep vs e w')(hr:res = .ok (ms,a,r)) :
 Fr w w' b∧e = .returned (.int .i64 0)∧∃p' bu us,ts.drop p'=r∧us.map aK.n=ms∧(∀u∈us,∀g,u.aY.ownBlock=some g→w.heap.size≤g)∧cB w' b tv ts p' deep bu (vs++us):=by
 rcases h.2 with ⟨c',h1,h2,h3⟩|⟨ms',a',r',h1,h2,h3⟩
 · rw[hr]at h1;cases h1
 · rw[hr]at h1;injection h1 with h1;injection h1 with e1 e2;injection e2 with e2 e3;subst e1;subst e3;exact⟨h.1,h2,h3⟩
theorem IV {w:World}{b:Nat}{tv:Value}{ts:List ah}{p deep:Nat}{nv:Value}{vs:List aK}(h:cB w b tv ts p deep nv vs)(a:Nat)(ha:a+1=vs.length) :
 Calls Tryz.prog 127 #[.pointer (some ⟨b,0,none⟩)] w fun e w'=>e = .returned (.int .i64 (a:Int))∧w=w':=by
 have:=ahm h (by omega);rw[show(vs.length:Int) - 1=(a:Int)by omega]at this;exact this
theorem Ip (w:World)(base:Nat)(x y:Int)(hb:base≤w.heap.size):Own (aJ .i64) 3 (w.alloc (.cells #[.int .i64 x,.int .i64 y] 3)) base (.slice (some ⟨w.heap.size,0,none⟩) 2 2) [x,y] :=
 ⟨rfl,.inr ⟨w.heap.size,2,_,rfl,hb,(lu w _).1,aj _,by decide,rfl,rfl⟩⟩
theorem Io (w:World)(base:Nat)(x:Int)(hb:base≤w.heap.size):Own (aJ .i64) 3 (w.alloc (.cells #[.int .i64 x] 3)) base (.slice (some ⟨w.heap.size,0,none⟩) 1 1) [x] :=
 ⟨rfl,.inr ⟨w.heap.size,1,_,rfl,hb,(lu w _).1,aj _,by decide,rfl,rfl⟩⟩
def yP (f:Nat):Prop:=∀(n deep:Nat)(res:eT)(w:World)(b:Nat)(tv:Value)(ts:List ah)(p:Nat)(nv:Value)(vs:List aK),n≤4→cB w b tv ts p deep nv vs→eZ f n deep vs.length (ts.drop p)=some res →
 Calls Tryz.prog 68 #[.pointer (some ⟨b,0,none⟩),.int .i64 (n:Int)] w (Out res w b tv ts deep vs)
theorem zu {f n deep base:Nat}{ts:List ah}{p p':Nat}{ns:List Nd}{a:Nat}{r:List ah}(h:eZ f n deep base (ts.drop p)=some (.ok (ns,a,r)))(hr:ts.drop p'=r)(hl:p'<ts.length):ns.length+p≤p'∧a+1=base+ns.length∧1≤ns.length:=by
 have h1:=(QB f).1 _ _ _ _ _ _ _ h;have h2:=(wG f).1 _ _ _ _ _ _ _ h;subst hr;rw[lq,lq]at h1;exact⟨by omega,h2.2.1,h2.2.2⟩
theorem ahq (f:Nat)(IH:∀g,g≤f→yP g)(n:Nat)(hn:n≤3){w:World}{b:Nat}{tv:Value}{ts:List ah}{p deep:Nat}{nv:Value}{vs:List aK}(h:cB w b tv ts p deep nv vs)(res:eT)
 (au:iX (eZ f (n+1) deep vs.length (ts.drop p)) (fun ns a r=>iK f n deep vs.length ns a r)=some res) :
 Calls Tryz.prog 123 #[.pointer (some ⟨b,0,none⟩),.int .i64 (n:Int)] w (Out res w b tv ts deep vs):=by
 have hw1 : -9223372036854775808≤(n:Int)+1:=by omega
 have hw2:(n:Int)+1≤9223372036854775807:=by omega
 have vW:n+1≤4:=by omega
 rcases eO au with ⟨c,h1,rfl⟩|⟨ns,a,r,h1,h2⟩
 · have HL:=ae (show Calls Tryz.prog 68 #[.pointer (some ⟨b,0,none⟩),.int .i64 ((n:Int)+1)] w (Out (.error c) w b tv ts deep vs)from IH f (aj _) (n+1) deep _ w b tv ts p nv vs vW h h1)
   clear au h1 IH h;go_enter Tryz.func123,Tryz.ntmps123;go_wp2_with (go_at_call 68;((with_reducible refine HL.o.mono ?_);intro e w2 ho;obtain⟨hf,hc,rfl⟩:=ho.bad rfl;have HF:=ae hf;have HC:=ae hc;have hc0:(c != 0)=true:=(by rw[bne_iff_ne];rcases hc with h|h <;> omega);clear hf hc ho))
   go_ret;exact Out.err rfl HC.o HF.o
 · have HL := ae (show Calls Tryz.prog 68 #[.pointer (some ⟨b,0,none⟩),.int .i64 ((n:Int)+1)] w (Out (.ok (ns,a,r)) w b tv ts deep vs)from IH f (aj _) (n+1) deep _ w b tv ts p nv vs vW h h1)
   have sw:=ae IH;have H1:=ae h1;have H2:=ae h2;have hcn:=h.cnt;have HP:=ae h;clear au h1 h2 IH h;go_enter Tryz.func123,Tryz.ntmps123;go_upto_region 4 with (go_at_call 68;((with_reducible refine HL.o.mono ?_);intro e w2 ho;obtain⟨hf,rfl,p1,nv1,us1,hp1,hu1,hk1,R8⟩:=ho.sU rfl;have kQ:=ae hf;have bK:=ae R8;have HD1:=ae hp1;have Kl:=ae hu1;have jH:=ae hk1;clear hf ho hp1 hu1 hk1 R8))
   go_loopw [] (fun wr=>∃(g:Nat)(ns':List Nd)(a' p':Nat)(bu:Value)(us:List aK),g≤f∧a'+1=vs.length+ns'.length∧us.length=ns'.length∧Hid (iK g n deep vs.length ns' a' (ts.drop p')=some res)∧Hid (us.map aK.n=ns')∧Hid (∀u∈us,∀j,u.aY.ownBlock=some j→w.heap.size≤j)∧Hid (cB wr b tv ts p' deep bu (vs++us))∧Hid (Fr w wr b))
    (fun wr=>xn b ts.length wr)
   case atStart =>
    have h3:=zu H1.o HD1.o bK.o.lt;refine⟨f,ns,a,p1,nv1,us1,aj _,h3.2.1,by rw[← Kl.o,eF], ?_,Kl,jH,bK,kQ⟩;rw[HD1.o];exact H2
   case round =>
    clear HL H1 H2 kQ bK HD1 Kl jH;obtain⟨g,ns',a',p',bu,us,hg,ha,Bj,HR,HU,HK,iV,HF⟩:=hrel;have hlt:=iV.o.lt;have kW:=iV.o.few;have uE:=iV.o.cnt;rw[ax]at uE;have HM:=ae (iV.o.xn ts.length);have HO:=ae (afG iV.o n hn)
    match g,hg,HR with
    | 0,_,HR=>have:=HR.o;unfold iK at this;cases this
    | g+1,hg,HR =>
    have hr:=HR.o;rw[qL]at hr;by_cases h0:fH n (ts.drop p')=0
    · rw[ag h0]at hr
      injection hr with hr;have Ka:=ae hr.symm;rw[h0]at HO;have HO:=ae (show Calls Tryz.prog 152 #[.pointer (some ⟨b,0,none⟩),.int .i64 (n:Int)] wr fun e w'=>e = .returned (.tuple #[.int .i64 0,.bool false])∧Below wr.heap.size wr w' from HO.o);clear hr h0 HR;go_wp2_with (go_at_call 152;((with_reducible refine HO.o.mono ?_);rintro e w3 ⟨rfl,h1⟩;have dY:=ae (HF.o.below h1);have bg:=ae (iV.o.below h1);clear h1))
      go_ret;exact⟨dY.o,.inr ⟨_,_,_,Ka.o,rfl,p',bu,us,rfl,HU.o,HK.o,bg.o⟩⟩
    · rw [af h0]at hr
      obtain⟨kd,hkd⟩:∃kd,fH n (ts.drop p')=kd:=⟨_,rfl⟩;obtain⟨q,hq1,hq2,hq3⟩:=EX h0;have hnx:=BJ iV.o hq2;clear hq1 hq2 hq3 q;rw[hkd]at HO hr h0;have HO:=ae (show Calls Tryz.prog 152 #[.pointer (some ⟨b,0,none⟩),.int .i64 (n:Int)] wr fun e w'=>e = .returned (.tuple #[.int .i64 kd,.bool true])∧Below wr.heap.size wr w' by have:=HO.o;rw[aR h0]at this;exact this);rw[List.tail_drop]at hr;have jX:vs.length+ns'.length=(vs++us).length:=by rw[ax,Bj]
      rw[jX]at hr;have HRR:=ae hr;clear hr h0 HR hkd;go_upto_region 7 with (go_at_call 152;((with_reducible refine HO.o.mono ?_);rintro e w3 ⟨rfl,h1⟩;have dY:=ae (HF.o.below h1);have bg:=ae (iV.o.below h1);clear h1))
      clear HO HF iV;obtain⟨c0,c1,c2,c3⟩:=bg.o.facts;have f1:=bg.o.frozen 1;clear c0 c2 c3;go_upto_region 8 with (fail)
      have bS:=ae (bg.o.next hnx);have eD:=ae (dY.o.setCell 1 (.int .i64 ((p':Int)+1)));clear c1 f1 bg dY;generalize w3.setCell ⟨b,1,none⟩ (.int .i64 ((p':Int)+1))=w4 at bS eD ⊢;have Kb:=ae (IV bS.o a' (by rw[ha,jX]));rcases eO HRR.o with ⟨c,h1,h2⟩|⟨ms,b2,r2,h1,h2⟩
      · subst h2
        have HL:=ae (show Calls Tryz.prog 68 #[.pointer (some ⟨b,0,none⟩),.int .i64 ((n:Int)+1)] w4 (Out (.error c) w4 b tv ts deep (vs++us))from sw.o g (by omega) (n+1) deep _ w4 b tv ts (p'+1) bu (vs++us) vW bS.o h1);clear h1 HRR
        go_wp2_with (first
         | (go_at_call 127;((with_reducible refine Kb.o.mono ?_);rintro e wn ⟨rfl,rfl⟩))
         | (go_at_call 68;((with_reducible refine HL.o.mono ?_);intro e w5 ho;obtain⟨hf,hc,rfl⟩:=ho.bad rfl;have bq:=ae (eD.o.trans hf);have HC:=ae hc;have hc0:(c != 0)=true:=(by rw[bne_iff_ne];rcases hc with h|h <;> omega);clear hf hc ho)))
        go_ret;exact Out.err rfl HC.o bq.o
      · have HL := ae (show Calls Tryz.prog 68 #[.pointer (some ⟨b,0,none⟩),.int .i64 ((n:Int)+1)] w4 (Out (.ok (ms,b2,r2)) w4 b tv ts deep (vs++us))from sw.o g (by omega) (n+1) deep _ w4 b tv ts (p'+1) bu (vs++us) vW bS.o h1)
        have H1:=ae h1;have H2:=ae h2;clear h1 h2 HRR
        go_upto_region 12 with (first
         | (go_at_call 127;((with_reducible refine Kb.o.mono ?_);rintro e wn ⟨rfl,rfl⟩))
         | (go_at_call 68;((with_reducible refine HL.o.mono ?_);intro e w5 ho;obtain⟨hf,rfl,p5,o6,dV,lY,l5,hk5,iY⟩:=ho.sU rfl;have Ci:=ae hf.size;have bq:=ae (eD.o.trans hf);have aS:=ae iY;have HD5:=ae lY;have lD:=ae l5;have jQ:=ae hk5;clear hf ho lY l5 hk5 iY)))
        obtain⟨hc1,hc2,hc3⟩:=zu H1.o HD5.o aS.o.lt;have G7:dV.length=ms.length:=by rw[← lD.o,eF]
        have GN:((vs++us)++dV).length=vs.length+us.length+dV.length:=by rw[ax,ax]
        have akN:(vs++us).length=vs.length+us.length:=ax;have F3:=ae (IV aS.o b2 (by omega));have hbl:=aS.o.blt;have iy:Below w5.heap.size w5 (w5.alloc (.cells #[.int .i64 (a':Int),.int .i64 (b2:Int)] 3)):=(ak _ _).alloc (aj _) _;have bU:=ae (aS.o.below iy);have eG:=ae (bq.o.below iy);have HA:=ae (show Calls Tryz.prog 126 #[.pointer (some ⟨b,0,none⟩),.agg (nB kd 0 ⟨#[]⟩ (.slice (some ⟨w5.heap.size,0,none⟩) 2 2))] (w5.alloc (.cells #[.int .i64 (a':Int),.int .i64 (b2:Int)] 3)) _ from Ej bU.o ⟨{ Nd.zero with kind:=kd,kids:=[(a':Int),(b2:Int)] },some (w5.heap.size,2)⟩ (Ip w5 (b+1) (a':Int) (b2:Int) (by omega)) (by omega) (.slice (some ⟨w5.heap.size,0,none⟩) 2 2) rfl { Nd.zero with kind:=kd,kids:=[(a':Int),(b2:Int)] } rfl);clear iy HL Kb
        go_wp2_with (first
         | (go_at_call 127;((with_reducible refine F3.o.mono ?_);rintro e wn ⟨rfl,rfl⟩))
         | (go_at_call 126;((with_reducible refine HA.o.mono ?_);rintro e w7 ⟨h1,rfl,Bz,h3⟩;have cz:=ae (eG.o.trans h1);have bO:=ae h3;clear h1 h3)))
        go_roundw
        case rel =>
         refine⟨g,ns'++(ms++[{ Nd.zero with kind:=kd,kids:=[(a':Int),(b2:Int)] }]),vs.length+(ns'.length+ms.length),p5,Bz,us++(dV++[⟨{ Nd.zero with kind:=kd,kids:=[(a':Int),(b2:Int)] },some (w5.heap.size,2)⟩]),by omega, ?_, ?_, ?_, ?_, ?_, ?_,cz⟩;rotate_left 2
         · rw[HD5.o];exact H2
         · refine ae ?_
           rw[iL,iL,HU.o,lD.o];rfl
         · refine ae ?_
           intro u hu j hj;rcases dQ.1 hu with hu|hu
           · exact HK.o u hu j hj
           · rcases dQ.1 hu with hu|hu
             · have:=jQ.o u hu j hj;have:=eD.o.size;omega
             · rw[gM.1 hu]at hj
               have hj:some w5.heap.size=some j:=hj;injection hj with hj;have:=bq.o.size;omega
         · rw[← bQ, ← bQ];exact bO
         · rw[ax,ax,fo];omega
         · rw[ax,ax,ax,ax,fo,fo];omega
        case measure =>
         have h1:=bO.o.xn ts.length;rw[HM.o,h1];omega
def Gv (f deep base:Nat)(ts:List ah):Option eT :=
 if ay ⟨#[40]⟩ ts=true then
  if 12≤deep then some (.error 6)
  else iX (eZ f 0 (deep+1) base ts.tail) fun ns a r=>if ay ⟨#[41]⟩ r=true then some (.ok (ns,a,r.tail))else some (.error 5)
 else some (.error 5)
theorem acM (f:Nat)(IH:yP f){w:World}{b:Nat}{tv:Value}{ts:List ah}{p deep:Nat}{nv:Value}{vs:List aK}(h:cB w b tv ts p deep nv vs)(res:eT)(au:Gv f deep vs.length (ts.drop p)=some res) :
 Calls Tryz.prog 131 #[.pointer (some ⟨b,0,none⟩)] w (Out res w b tv ts deep vs):=by
 have HS:=ae (Bn h ⟨#[40]⟩);unfold Gv at au;have HP:=ae h;cases hq:ay ⟨#[40]⟩ (ts.drop p)
 · rw[hq,af (by decide)]at au
   injection au with au;have HR:=ae au.symm;rw[hq]at HS;clear hq au h;go_enter Tryz.func131,Tryz.ntmps131;go_wp2_with (go_at_call 124;((with_reducible refine HS.o.mono ?_);rintro e w1 ⟨rfl,h1⟩;have HB:=ae h1;clear h1))
   go_ret;exact Out.err HR.o (.inl rfl) (Fr.of b HB.o)
 · have hnx:=BJ h hq
   rw[hq,ag rfl]at au;rw[hq]at HS;by_cases hd:12≤deep
   · rw [ag hd]at au
     injection au with au;have HR:=ae au.symm;clear hq au h;go_enter Tryz.func131,Tryz.ntmps131
     go_wp2_with (first
      | (go_at_call 124;((with_reducible refine HS.o.mono ?_);rintro e w1 ⟨rfl,h1⟩;have kQ:=ae (Fr.of b h1);have fZ:=ae (zM (HP.o.below h1) hnx);clear h1))
      | (go_at_call 125;((with_reducible refine fZ.o.mono ?_);rintro e w2 ⟨h1,⟨-,rfl⟩|⟨h2, -⟩⟩;rotate_left;exact absurd hd h2;have bT:=ae (kQ.o.trans h1);clear h1)))
     go_ret;exact Out.err HR.o (.inr rfl) bT.o
   · rw [af hd,List.tail_drop]at au
     rcases eO au with ⟨c,h1,rfl⟩|⟨ns,a,r,h1,h2⟩
     · have HI:=ae (fun w2 hps=>IH 0 (deep+1) _ w2 b tv ts (p+1) nv vs (by omega) hps h1)
       clear hq au h IH h1;go_enter Tryz.func131,Tryz.ntmps131
       go_wp2_with (first
        | (go_at_call 124;((with_reducible refine HS.o.mono ?_);rintro e w1 ⟨rfl,h1⟩;have kQ:=ae (Fr.of b h1);have fZ:=ae (zM (HP.o.below h1) hnx);clear h1))
        | (go_at_call 125;((with_reducible refine fZ.o.mono ?_);rintro e w2 ⟨h1,⟨h2, -⟩|⟨-,rfl,h3⟩⟩;exact absurd h2 hd;have bT:=ae (kQ.o.trans h1);have HL:=ae (show Calls Tryz.prog 68 #[.pointer (some ⟨b,0,none⟩),.int .i64 0] w2 (Out (.error c) w2 b tv ts (deep+1) vs)from HI.o w2 h3);clear h1 h3))
        | (go_at_call 68;((with_reducible refine HL.o.mono ?_);intro e w5 ho;obtain⟨hf,hc,rfl⟩:=ho.bad rfl;have bq:=ae (bT.o.trans hf);have HC:=ae hc;have hc0:(c != 0)=true:=(by rw[bne_iff_ne];rcases hc with h|h <;> omega);clear hf hc ho)))
       go_ret;exact Out.err rfl HC.o bq.o
     · have HI:=ae (fun w2 hps=>IH 0 (deep+1) _ w2 b tv ts (p+1) nv vs (by omega) hps h1)
       have H2:=ae h2;clear hq au h IH h1 h2;go_enter Tryz.func131,Tryz.ntmps131
       go_upto_region 9 with (first
        | (go_at_call 124;((with_reducible refine HS.o.mono ?_);rintro e w1 ⟨rfl,h1⟩;have kQ:=ae (Fr.of b h1);have HZ1:=ae h1.size;have fZ:=ae (zM (HP.o.below h1) hnx);clear h1))
        | (go_at_call 125;((with_reducible refine fZ.o.mono ?_);rintro e w2 ⟨h1,⟨h2, -⟩|⟨-,rfl,h3⟩⟩;exact absurd h2 hd;have bT:=ae (kQ.o.trans h1);have HL:=ae (show Calls Tryz.prog 68 #[.pointer (some ⟨b,0,none⟩),.int .i64 0] w2 (Out (.ok (ns,a,r)) w2 b tv ts (deep+1) vs)from HI.o w2 h3);clear h1 h3))
        | (go_at_call 68;((with_reducible refine HL.o.mono ?_);intro e w5 ho;obtain⟨hf,rfl,p5,o6,dV,lY,l5,hk5,iY⟩:=ho.sU rfl;have bq:=ae (bT.o.trans hf);have FP:=ae (UQ iY);have HD5:=ae lY;have lD:=ae l5;have jQ:=ae hk5;clear hf ho lY l5 hk5 iY)))
       have h2:=H2.o;rw[← HD5.o]at h2;have hz:=bT.o.size;cases hs:ay ⟨#[41]⟩ (ts.drop p5)
       · rw[hs,af (by decide)]at h2
         injection h2 with h2;have HR:=ae h2.symm;rw[hs]at FP;clear h2 hs;go_wp2_with (go_at_call 155;((with_reducible refine FP.o.mono ?_);rintro e w6 ⟨h1,⟨-,rfl⟩|⟨h2, -⟩⟩;rotate_left;cases h2;have eG:=ae (bq.o.trans h1);clear h1))
         go_ret;exact Out.err HR.o (.inl rfl) eG.o
       · rw[hs,ag rfl,List.tail_drop]at h2
         injection h2 with h2;have HR:=ae h2.symm;rw[hs]at FP;clear h2 hs;go_wp2_with (go_at_call 155;((with_reducible refine FP.o.mono ?_);rintro e w6 ⟨h1,⟨h2, -⟩|⟨-,rfl,h3⟩⟩;cases h2;have eG:=ae (bq.o.trans h1);have bU:=ae h3;clear h1 h3))
         go_ret;exact⟨eG.o,.inr ⟨_,_,_,HR.o,rfl,p5+1,o6,dV,rfl,lD.o,fun u hu j hj=>bN hz (jQ.o u hu j hj),bU.o⟩⟩
theorem Elem.kid:∃n,n≤100∧Elem Tryz.prog 34 3 1 n:=⟨8,by omega,Tryz.underlying34,⟨.int .i64 0,by kernel_rfl,rfl⟩,by decide⟩
theorem Own.kT {α : Type}{size:Nat}{E:Enc α size}{e:TypeId}{w:World}{base:Nat}{v:Value}{xs:List α}(h:Own E e w base v xs):∀g,v.ownBlock=Option.some g→base≤g∧g<w.heap.size∧∃cur,w.heap[g]? = Option.some (.cells cur e):=by
 intro g e;rcases h.2 with ⟨h1,_⟩|⟨g',cap,cur,h1,h2,h3,_⟩
 · rw[h1]at e;cases e
 · rw[h1]at e;injection e with e
   have e:g'=g:=e;subst e;exact⟨h2,(dB.1 h3).1,cur,h3⟩
theorem cB.kids {w w':World}{b:Nat}{tv:Value}{ts:List ah}{p deep:Nat}{nv:Value}{vs:List aK}(h:cB w b tv ts p deep nv vs){r:Option Nat}(hg:w.grownBy w' r)(hr:∀g,r=some g→b<g∧¬ Cm w g∧∀v∈vs,v.aY.ownBlock≠some g):cB w' b tv ts p deep nv vs:=by
 have yw:=h.low;refine⟨?_, ?_,⟨h.nodes.1.keep ?_,fun v hv=>(h.nodes.2 v hv).keep ?_⟩, ?_,h.lt,h.low,h.fit,h.few,h.cnt,h.nest⟩
 · rw[hg.block b h.blt (by intro e;have:=(hr b e.symm).1;omega)];exact h.cell
 · obtain ⟨g,cap,h1,h2,h3⟩:=h.qR
   exact ⟨g,cap,h1,h2,h3.keep fun j _ hj e=>hg.block j hj (by
    intro e2;have:=(hr j e2.symm).1;rw[h1]at e;injection e with e;have:g=j:=e;omega)⟩
 · intro g h1 h2 h3
   exact hg.block g h2 (fun e=>(hr g e.symm).2.1 (h.row g h3).2)
 · intro g h1 h2 h3
   exact hg.block g h2 (fun e=>(hr g e.symm).2.2 v hv h3)
 · exact h.ops.keep (hg.block _ h.ops.lt (by intro e;have:=(hr _ e.symm).1;omega))
def uw (base:Nat)(name:ByteArray)(ns:List Nd)(ks:List Int)(r:List ah):Option eT :=
 if ay ⟨#[41]⟩ r=true then some (.ok (ns++[{ Nd.zero with kind:=7,text:=name,kids:=ks }],base+ns.length,r.tail))else some (.error 5)
def Ct (f deep base:Nat)(name:ByteArray)(ts:List ah):Option eT :=
 if 12≤deep then some (.error 6)
 else iX (if ay ⟨#[41]⟩ ts.tail=true then some (.ok ([],[],ts.tail))else iq f (deep+1) base [] [] ts.tail) (uw base name)
theorem ZJ (f:Nat)(name:ByteArray){w:World}{b:Nat}{tv:Value}{ts:List ah}{p deep:Nat}{nv:Value}{vs:List aK}(h:cB w b tv ts p deep nv vs)(hnx:p+1<ts.length)(res:eT)(au:Ct f deep vs.length name (ts.drop p)=some res)(hd:12≤deep) :
 Calls Tryz.prog 154 #[.pointer (some ⟨b,0,none⟩),.string name] w (Out res w b tv ts deep vs):=by
 have HO:=ae (zM h hnx);unfold Ct at au;rw[ag hd]at au;injection au with au;have HR:=ae au.symm;clear au h;go_enter Tryz.func154,Tryz.ntmps154;go_wp2_with (go_at_call 125;((with_reducible refine HO.o.mono ?_);rintro e w2 ⟨h1,⟨-,rfl⟩|⟨h2, -⟩⟩;rotate_left;exact absurd hd h2;have bT:=ae h1;clear h1))
 go_ret;exact Out.err HR.o (.inr rfl) bT.o
theorem Qi {α β γ α' β' γ' δ : Type}(x:Option (Except Int (α × β × γ)))(k : α → β → γ → Option (Except Int (α' × β' × γ')))(K : α' → β' → γ'→Option (Except Int δ)):iX (iX x k) K=iX x fun a b c=>iX (k a b c) K:=by
 match x with
 | none=>rfl
 | some (.error e)=>rfl
 | some (.ok (a,b,c))=>rfl
theorem ZI (f:Nat)(IH:∀g,g≤f→yP g)(name:ByteArray){w:World}{b:Nat}{tv:Value}{ts:List ah}{p deep:Nat}{nv:Value}{vs:List aK}(h:cB w b tv ts p deep nv vs)(hnx:p+1<ts.length)(res:eT)(au:Ct f deep vs.length name (ts.drop p)=some res) :
 Calls Tryz.prog 154 #[.pointer (some ⟨b,0,none⟩),.string name] w (Out res w b tv ts deep vs):=by
 by_cases hd:12≤deep
 · exact ZJ f name h hnx res au hd
 have HO:=ae (zM h hnx);unfold Ct at au;rw[af hd,List.tail_drop]at au;have vw:=ae au;have sw:=ae IH;have hbl:=h.blt;obtain⟨eb,jW,df⟩:=Elem.kid;have jw:=ae df;clear au h IH df;go_enter Tryz.func154,Tryz.ntmps154
 go_upto_region 6 with (first
  | (go_at_call 125;((with_reducible refine HO.o.mono ?_);rintro e w2 ⟨h1,⟨h2, -⟩|⟨-,rfl,h3⟩⟩;exact absurd h2 hd;have bT:=ae h1;have dm:=ae h3;have HS2:=ae (Bn h3 ⟨#[41]⟩);clear h1 h3))
  | (go_at_call 124;((with_reducible refine HS2.o.mono ?_);rintro e w3 ⟨rfl,h1⟩;have dY:=ae (bT.o.below h1);have bg:=ae (dm.o.below h1);clear h1)))
 go_loopw [6,7] (fun Ml mv wr=>∃(aY:Value)(more:Bool)(g:Nat)(ns:List Nd)(ks:List Int)(p':Nat)(bu:Value)(us:List aK),aY=Ml∧mv = .bool more∧g≤f∧ks.length≤us.length∧us.length=ns.length ∧
  Hid ((more=true∧iX (iq g (deep+1) vs.length ns ks (ts.drop p')) (uw vs.length name)=some res)∨(more=false∧uw vs.length name ns ks (ts.drop p')=some res)) ∧
  Hid (us.map aK.n=ns)∧Hid (∀u∈us,∀j,u.aY.ownBlock=some j→w.heap.size≤j)∧Hid (∀u∈vs++us,∀j,u.aY.ownBlock=some j→aY.ownBlock≠some j) ∧
  Hid (Own (aJ .i64) 3 wr w.heap.size aY ks)∧Hid (cB wr b tv ts p' (deep+1) bu (vs++us))∧Hid (Fr w wr b))
  (fun _ _ wr=>xn b ts.length wr)
 case atStart =>
  have hr:=vw.o;refine⟨.slice none 0 0,_,f,[],[],p+1,nv,[],rfl,rfl,aj _,aj _,rfl, ?_,ae rfl,ae (by simp),ae (by intro u _ j _ e;cases e),ae (Own.nil _ _ _ _),by rw[gL];exact bg,dY⟩;refine ae ?_;cases hs:ay ⟨#[41]⟩ (ts.drop (p+1))
  · rw[hs,af (by decide)]at hr
    exact .inl ⟨rfl,hr⟩
  · rw[hs,ag rfl]at hr
    exact .inr ⟨rfl,hr⟩
 case round =>
  clear HO vw bT dm HS2 dY bg;obtain⟨aY,more,g,ns,ks,p',bu,us,rfl,rfl,hg,hkl,Bj,HM,HU,HK,HJ,kF,iV,HF⟩:=hrel;have kW:=iV.o.few;have hlt:=iV.o.lt;have uE:=iV.o.cnt;have hlen:(vs++us).length=vs.length+us.length:=ax;have FY:=ae (iV.o.xn ts.length);cases more
  · have hK : uw vs.length name ns ks (ts.drop p')=some res:=by
     rcases HM.o with ⟨h1,_⟩|⟨_,h1⟩
     · cases h1
     · exact h1
    unfold uw at hK;have HC:=ae (UQ iV.o);cases hs:ay ⟨#[41]⟩ (ts.drop p')
    · rw[hs,af (by decide)]at hK
      injection hK with hK;have HR:=ae hK.symm;rw[hs]at HC;clear hK hs HM;go_wp2_with (go_at_call 155;((with_reducible refine HC.o.mono ?_);rintro e w6 ⟨h1,⟨-,rfl⟩|⟨h2, -⟩⟩;rotate_left;cases h2;have eG:=ae (HF.o.trans h1);clear h1))
      go_ret;exact Out.err HR.o (.inl rfl) eG.o
    · rw [hs,ag rfl,List.tail_drop]at hK
      injection hK with hK;have HR:=ae hK.symm;rw[hs]at HC;clear hK hs HM
      obtain ⟨v,rG,hvk⟩:∃v:aK,v.n={ Nd.zero with kind:=7,text:=name,kids:=ks }∧v.aY=aY:=by
       rcases kF.o.shape with ⟨rfl,rfl⟩|⟨g1,cap,rfl,_⟩
       · exact⟨⟨_,none⟩,rfl,rfl⟩
       · exact⟨⟨_,some (g1,cap)⟩,rfl,rfl⟩
      have kS:=ae rG;have nI:=ae hvk;clear rG hvk
      have kI:(∃g1 n1 cap,aY = .slice (some ⟨g1,0,none⟩) n1 cap)∨aY = .slice none 0 0:=by
       rcases kF.o.shape with ⟨h1,_⟩|⟨g1,cap,h1,_⟩
       · exact .inr h1
       · exact .inl ⟨g1,_,cap,h1⟩
      rcases kI with ⟨g1,n1,cap,rfl⟩|rfl
      all_goals
       go_upto_region 15 with (go_at_call 155;((with_reducible refine HC.o.mono ?_);rintro e w6 ⟨h1,⟨h2, -⟩|⟨-,rfl,h3⟩⟩;cases h2;have eG:=ae (HF.o.trans h1);have X5:=ae (kF.o.fr h1 hbl (by decide));have bU:=ae h3;clear h1 h3))
       have HA:=ae (show Calls Tryz.prog 126 #[.pointer (some ⟨b,0,none⟩),.agg (nB 7 0 name _)] w6 _ from Ej bU.o v (by rw[nI.o,kS.o];exact X5.o.mono (by omega)) (by omega) _ nI.o { Nd.zero with kind:=7,text:=name,kids:=ks } kS.o);go_wp2_with (go_at_call 126;((with_reducible refine HA.o.mono ?_);rintro e w7 ⟨h1,rfl,Bz,h3⟩;have cz:=ae (eG.o.trans h1);have bO:=ae h3;clear h1 h3))
       go_ret;refine⟨cz.o,.inr ⟨_,_,_,HR.o,rfl,p'+1,Bz,us++[v],rfl, ?_, ?_,by rw[← bQ];exact bO.o⟩⟩
       · rw[iL,HU.o,jr,List.map_nil,kS.o]
       · intro u hu j hj
         rcases dQ.1 hu with hu|hu
         · exact HK.o u hu j hj
         · rw[gM.1 hu,nI.o]at hj
           exact(kF.o.kT j hj).1
  · have hA:iX (iq g (deep+1) vs.length ns ks (ts.drop p')) (uw vs.length name)=some res:=by
     rcases HM.o with ⟨_,h1⟩|⟨h1,_⟩
     · exact h1
     · cases h1
    match g,hg,hA with
    | 0,_,hA=>unfold iq iX at hA;cases hA
    | g+1,hg,hA =>
    rw[pO,Qi]at hA;have jX:vs.length+ns.length=(vs++us).length:=by rw[hlen,Bj]
    rw[jX]at hA;rcases eO hA with ⟨c,h1,rfl⟩|⟨ms,a,r,h1,h2⟩
    · have HL:=ae (show Calls Tryz.prog 68 #[.pointer (some ⟨b,0,none⟩),.int .i64 0] wr (Out (.error c) wr b tv ts (deep+1) (vs++us))from sw.o g (by omega) 0 (deep+1) _ wr b tv ts p' bu (vs++us) (by omega) iV.o h1)
      clear h1 hA HM;go_wp2_with (go_at_call 68;((with_reducible refine HL.o.mono ?_);intro e w5 ho;obtain⟨hf,hc,rfl⟩:=ho.bad rfl;have bq:=ae (HF.o.trans hf);have HC:=ae hc;have hc0:(c != 0)=true:=(by rw[bne_iff_ne];rcases hc with h|h <;> omega);clear hf hc ho))
      go_ret;exact Out.err rfl HC.o bq.o
    · have HL:=ae (show Calls Tryz.prog 68 #[.pointer (some ⟨b,0,none⟩),.int .i64 0] wr (Out (.ok (ms,a,r)) wr b tv ts (deep+1) (vs++us))from sw.o g (by omega) 0 (deep+1) _ wr b tv ts p' bu (vs++us) (by omega) iV.o h1)
      have H1:=ae h1;have H2:=ae h2;clear h1 h2 hA HM;go_upto_region 11 with (go_at_call 68;((with_reducible refine HL.o.mono ?_);intro e w5 ho;obtain⟨hf,rfl,p5,o6,dV,lY,l5,hk5,iY⟩:=ho.sU rfl;have bq:=ae (HF.o.trans hf);have vk:=ae (kF.o.fr hf hbl (by decide));have aS:=ae iY;have HD5:=ae lY;have lD:=ae l5;have jQ:=ae hk5;clear hf ho lY l5 hk5 iY))
      obtain⟨hc1,hc2,hc3⟩:=zu H1.o HD5.o aS.o.lt;have G7:dV.length=ms.length:=by rw[← lD.o,eF]
      have GN:((vs++us)++dV).length=vs.length+us.length+dV.length:=by rw[ax,ax]
      have F3:=ae (IV aS.o a (by omega));have Mc:=bq.o.size;have YW:=ae HF.o.size
      have wK:=ae (show ∀u∈(vs++us)++dV,∀j,u.aY.ownBlock=some j→aY.ownBlock≠some j from by
       intro u hu j hj;rcases dQ.1 hu with hu|hu
       · exact HJ.o u hu j hj
       · intro e
         have h3:=jQ.o u hu j hj;have h4:=(kF.o.kT j e).2.1;omega)
      clear HL kF HJ
      go_upto_region 7 with (first
       | (go_at_call 127;((with_reducible refine F3.o.mono ?_);rintro e wn ⟨rfl,rfl⟩))
       | (at_builtin;refine xG jw.o (aJ .i64) rfl (.tmp 26) (.tmp 29) rfl w.heap.size aY ks rfl (vk.o.alloc _) ⟨w5.heap.size,0,none⟩ 1 1 [(a:Int)] rfl rfl ?_ ?_ ?_ ?_ ?_;exact gD _ _ _ rfl;exact bN (Nat.mul_le_mul_left _ jW) (by omega);(unfold maxLen;omega);(simp <;> omega);intro rJ w6 h1 h2 h3;have sH:=ae h1;have su:=ae h2;have HAT:=ae h3;clear h1 h2 h3))
      have iy:Below w5.heap.size w5 (w5.alloc (.cells #[.int .i64 (a:Int)] 3)):=(ak _ _).alloc (aj _) _;have vS:=vk.o.alloc (.cells #[.int .i64 (a:Int)] 3)
      have bU:=ae ((aS.o.below iy).kids su.o (by
       intro j e;obtain⟨q1,q2,cur,q3⟩:=vS.kT j e;refine⟨by omega, ?_,fun u hu e2=>wK.o u hu j e2 e⟩;rintro⟨QC,fr,e2⟩;rw[q3]at e2;injection e2 with e2;injection e2 with _ e2;exact absurd e2 (by decide)))
      have eG:=ae ((bq.o.below iy).row su.o (by
       intro j e;obtain⟨q1,q2,cur,q3⟩:=vS.kT j e;exact⟨by omega,.inl q1⟩))
      have FT:=ae (show ∀u∈(vs++us)++dV,∀j,u.aY.ownBlock=some j→rJ.ownBlock≠some j from by
       intro u hu j hj;rcases HAT.o with e|e
       · rw[e];exact wK.o u hu j hj
       · rw[e]
         have h4:=((aS.o.nodes.2 u hu).kT j hj).2.1;intro e2;injection e2 with e2;simp at e2;omega)
      have sN:=ae (M7 bU.o ⟨#[44]⟩);have h2:=H2.o;rw[← HD5.o]at h2;clear iy vS su HAT wK vk HF iV H2 F3
      have Ep:∀u∈us++dV,∀j,u.aY.ownBlock=some j→w.heap.size≤j:=by
       intro u hu j hj;rcases dQ.1 hu with hu|hu
       · exact HK.o u hu j hj
       · exact bN YW.o (jQ.o u hu j hj)
      have DR:=ae Ep;clear Ep;cases hs:ay ⟨#[44]⟩ (ts.drop p5)
      · rw [hs,af (by decide)]at h2
        have HN:=ae (show uw vs.length name (ns++ms) (ks++[(a:Int)]) (ts.drop p5)=some res from h2);rw[hs,af (by decide)]at sN;clear h2 hs;go_wp2_with (go_at_call 153;((with_reducible refine sN.o.mono ?_);rintro e w7 ⟨h1,rfl,h3⟩;have cz:=ae (eG.o.trans h1);have sI:=ae (sH.o.fr h1 hbl (by decide));have bO:=ae h3;clear h1 h3))
        go_roundw
        case rel =>
         refine⟨rJ,false,g,ns++ms,ks++[(a:Int)],p5,o6,us++dV,rfl,rfl,by omega,by rw[ax,ax,fo];omega,by rw[ax,ax];omega,ae (.inr ⟨rfl,HN.o⟩),ae (by rw[iL,HU.o,lD.o]),DR, ?_,sI, ?_,cz⟩
         · rw[← bQ];exact FT
         · rw[← bQ];exact bO
        case measure =>
         have h1:=bO.o.xn ts.length;rw[FY.o,h1];omega
      · rw [hs,ag rfl,List.tail_drop]at h2
        have HN:=ae h2;have RZ:=BJ bU.o hs;rw[hs,ag rfl]at sN;clear h2 hs;go_wp2_with (go_at_call 153;((with_reducible refine sN.o.mono ?_);rintro e w7 ⟨h1,rfl,h3⟩;have cz:=ae (eG.o.trans h1);have sI:=ae (sH.o.fr h1 hbl (by decide));have bO:=ae h3;clear h1 h3))
        go_roundw
        case rel =>
         refine⟨rJ,true,g,ns++ms,ks++[(a:Int)],p5+1,o6,us++dV,rfl,rfl,by omega,by rw[ax,ax,fo];omega,by rw[ax,ax];omega,ae (.inl ⟨rfl,HN.o⟩),ae (by rw[iL,HU.o,lD.o]),DR, ?_,sI, ?_,cz⟩
         · rw[← bQ];exact FT
         · rw[← bQ];exact bO
        case measure =>
         have h1:=bO.o.xn ts.length;rw[FY.o,h1];omega
def Ji (f deep base:Nat)(name:ByteArray)(ts:List ah):Option eT :=
 if name=⟨#[84,82,85,69]⟩then some (.ok ([{ Nd.zero with kind:=3,num:=1 }],base,ts))
 else if name=⟨#[70,65,76,83,69]⟩then some (.ok ([{ Nd.zero with kind:=3 }],base,ts))
 else if ay ⟨#[40]⟩ ts=true then Ct f deep base name ts else some (.error 5)
theorem Ac (name c:ByteArray):(name.toList == c.toList)=decide (name=c):=by
 by_cases h:name=c
 · rw[h,aR rfl];simp
 · rw[aV h];exact aA.2 (pg _ _ h)
theorem HV:(⟨#[84,82,85,69]⟩:ByteArray).toList=[84,82,85,69]:=by rw[qH]
theorem Hz:(⟨#[70,65,76,83,69]⟩:ByteArray).toList=[70,65,76,83,69]:=by rw[qH]
theorem agm (f:Nat)(IH:∀g,g≤f→yP g)(name:ByteArray){w:World}{b:Nat}{tv:Value}{ts:List ah}{p deep:Nat}{nv:Value}{vs:List aK}(h:cB w b tv ts p deep nv vs)(hnx:p+1<ts.length)(res:eT)(au:Ji f deep vs.length name (ts.drop (p+1))=some res) :
 Calls Tryz.prog 130 #[.pointer (some ⟨b,0,none⟩),.string name] w (Out res w b tv ts deep vs):=by
 unfold Ji at au;have q1:=Ac name ⟨#[84,82,85,69]⟩;have q2:=Ac name ⟨#[70,65,76,83,69]⟩;rw[HV]at q1;rw[Hz]at q2;by_cases h1:name=⟨#[84,82,85,69]⟩
 · rw[aR h1]at q1
   rw[ag h1]at au;injection au with au;have HR:=ae au.symm;have HA:=ae (show Calls Tryz.prog 128 #[.pointer (some ⟨b,0,none⟩),.agg (nB 3 1 ⟨#[]⟩ (.slice none 0 0))] w _ from CQ h hnx { Nd.zero with kind:=3,num:=1 } rfl);clear au h h1 q2;go_enter Tryz.func130,Tryz.ntmps130;go_wp2_with (go_at_call 128;((with_reducible refine HA.o.mono ?_);rintro e w7 ⟨h1,rfl,bu,h3⟩;have cz:=ae h1;have bO:=ae h3;clear h1 h3))
   go_ret;exact Out.leaf HR.o cz.o rfl bO.o
 rw[aV h1]at q1;rw[af h1]at au;by_cases h2:name=⟨#[70,65,76,83,69]⟩
 · rw[aR h2]at q2
   rw[ag h2]at au;injection au with au;have HR:=ae au.symm;have HA:=ae (show Calls Tryz.prog 128 #[.pointer (some ⟨b,0,none⟩),.agg (nB 3 0 ⟨#[]⟩ (.slice none 0 0))] w _ from CQ h hnx { Nd.zero with kind:=3 } rfl);clear au h h1 h2;go_enter Tryz.func130,Tryz.ntmps130;go_wp2_with (go_at_call 128;((with_reducible refine HA.o.mono ?_);rintro e w7 ⟨h1,rfl,bu,h3⟩;have cz:=ae h1;have bO:=ae h3;clear h1 h3))
   go_ret;exact Out.leaf HR.o cz.o rfl bO.o
 rw[aV h2]at q2;rw[af h2]at au;obtain⟨c0,c1,c2,c3⟩:=h.facts;have f1:=h.frozen 1;have kW:=h.few;have HP:=ae h;clear c0 c2 c3 h1 h2 h;have bK:=ae (HP.o.next hnx);have kQ:=ae ((Fr.refl w b).setCell 1 (.int .i64 ((p:Int)+1)));cases hs:ay ⟨#[40]⟩ (ts.drop (p+1))
 · rw[hs,af (by decide)]at au
   injection au with au;have HR:=ae au.symm;have HS:=Bn bK.o ⟨#[40]⟩;rw[hs]at HS;have HS:=ae HS;clear au hs;go_enter Tryz.func130,Tryz.ntmps130;go_upto_region 7 with (fail)
   generalize w.setCell ⟨b,1,none⟩ (.int .i64 ((p:Int)+1))=w1 at bK kQ HS ⊢;go_wp2_with (go_at_call 124;((with_reducible refine HS.o.mono ?_);rintro e w2 ⟨rfl,h1⟩;have bT:=ae (kQ.o.below h1);clear h1))
   go_ret;exact Out.err HR.o (.inl rfl) bT.o
 · rw [hs,ag rfl]at au
   have vw:=ae au;have LH:=BJ bK.o hs;have HS:=Bn bK.o ⟨#[40]⟩;rw[hs]at HS;have HS:=ae HS;have sw:=ae IH;clear au hs IH;go_enter Tryz.func130,Tryz.ntmps130;go_upto_region 7 with (fail)
   generalize w.setCell ⟨b,1,none⟩ (.int .i64 ((p:Int)+1))=w1 at bK kQ HS ⊢
   go_wp2_with (first
    | (go_at_call 124;((with_reducible refine HS.o.mono ?_);rintro e w2 ⟨rfl,h1⟩;have bT:=ae (kQ.o.below h1);have Jz:=ae (ZI f sw.o name (bK.o.below h1) LH res vw.o);clear h1))
    | (go_at_call 154;((with_reducible refine Jz.o.mono ?_);intro e w3 ho;have oP:=ae ho;obtain⟨c,rfl⟩:=ho.ret;clear ho)))
   go_ret;obtain⟨hf,h2⟩:=oP.o;refine⟨bT.o.trans hf,h2.imp id ?_⟩;rintro⟨ms,a,r,g1,g2,p',bu,us,g3,g4,g5,g6⟩;exact⟨ms,a,r,g1,g2,p',bu,us,g3,g4,fun u hu j hj=>bN bT.o.size (g5 u hu j hj),g6⟩
theorem Out.from {res:eT}{w w2 w3:World}{b:Nat}{tv:Value}{ts:List ah}{deep:Nat}{vs:List aK}{e:Ending}(hf:Fr w w2 b)(h:Out res w2 b tv ts deep vs e w3):Out res w b tv ts deep vs e w3:=by
 refine⟨hf.trans h.1,h.2.imp id ?_⟩;rintro⟨ms,a,r,g1,g2,p',bu,us,g3,g4,g5,g6⟩;exact⟨ms,a,r,g1,g2,p',bu,us,g3,g4,fun u hu j hj=>bN hf.size (g5 u hu j hj),g6⟩
theorem Fq {s:ByteArray}{t:ah}{ts:List ah}(h:¬ t.kind=5):ay s (t :: ts)=false:=by
 show(decide (t.kind=5)&&decide (t.text=s))=false;rw[aV h];rfl
theorem agb (f:Nat)(IH:∀g,g≤f→yP g){w:World}{b:Nat}{tv:Value}{ts:List ah}{p deep:Nat}{nv:Value}{vs:List aK}(h:cB w b tv ts p deep nv vs)(res:eT)(au:jF (f+1) deep vs.length (ts.drop p)=some res) :
 Calls Tryz.prog 97 #[.pointer (some ⟨b,0,none⟩)] w (Out res w b tv ts deep vs):=by
 obtain⟨g,cap,t, -,ht,hd, -⟩:=h.tok;have aT:=ae (Iy h t ht);have HP:=ae h;have hbl:=h.blt;rw[hd,l7]at au;go_enter Tryz.func97,Tryz.ntmps97;go_upto_region 2 with (go_at_call 69;((with_reducible refine aT.o.mono ?_);rintro e w1 ⟨rfl,h1⟩;have HB:=ae h1;clear h1))
 have hB3:Below w1.heap.size w1 (w1.alloc (.cells (tA t (.int .i64 t.pos)) 113)):=(ak _ _).alloc (aj _) _;have aM:aN (w1.alloc (.cells (tA t (.int .i64 t.pos)) 113)) w1.heap.size t:=aN.new w1 t;have HB3:=ae (HB.o.trans (hB3.mono HB.o.size));clear hB3 HB;generalize hb4:w1.heap.size=b4 at aM ⊢;generalize w1.alloc (.cells (tA t (.int .i64 t.pos)) 113)=w3 at aM HB3 ⊢;clear hb4 aT;obtain⟨x0,x1,x2,x3,x4,x5,x6,x7,av⟩:=aM.cells;clear aM;have bg:=ae (HP.o.below HB3.o);have dY:=ae (Fr.of b HB3.o);obtain⟨kd,hkd⟩:∃kd,t.kind=kd:=⟨_,rfl⟩;by_cases k1:t.kind=1
 · have hnx:=h.fit.next ht (by omega)
   rw[Fq (by omega),af (by decide),ag k1]at au;injection au with au;have HR:=ae au.symm;have HA:=ae (show Calls Tryz.prog 128 #[.pointer (some ⟨b,0,none⟩),.agg (nB 1 t.num ⟨#[]⟩ (.slice none 0 0))] w3 _ from CQ bg.o hnx { Nd.zero with kind:=1,num:=t.num } rfl);have e1:(kd == 1)=true:=bB.2 (by omega);rw[hkd]at x0;clear au hd ht k1 hkd h;go_wp2_with (go_at_call 128;((with_reducible refine HA.o.mono ?_);rintro e w7 ⟨h1,rfl,bu,h3⟩;have cz:=ae (dY.o.trans h1);have bO:=ae h3;clear h1 h3))
   go_ret;exact Out.leaf HR.o cz.o rfl bO.o
 have e1:(kd == 1)=false:=aA.2 (by omega);by_cases k2:t.kind=2
 · have hnx:=h.fit.next ht (by omega)
   rw[Fq (by omega),af (by decide),af k1,ag k2]at au;injection au with au;have HR:=ae au.symm;have HA:=ae (show Calls Tryz.prog 128 #[.pointer (some ⟨b,0,none⟩),.agg (nB 2 0 t.text (.slice none 0 0))] w3 _ from CQ bg.o hnx { Nd.zero with kind:=2,text:=t.text } rfl);have e2:(kd == 2)=true:=bB.2 (by omega);rw[hkd]at x0;clear au hd ht k1 k2 hkd h;go_wp2_with (go_at_call 128;((with_reducible refine HA.o.mono ?_);rintro e w7 ⟨h1,rfl,bu,h3⟩;have cz:=ae (dY.o.trans h1);have bO:=ae h3;clear h1 h3))
   go_ret;exact Out.leaf HR.o cz.o rfl bO.o
 have e2:(kd == 2)=false:=aA.2 (by omega);by_cases k6:t.kind=6
 · have hnx:=h.fit.next ht (by omega)
   rw[Fq (by omega),af (by decide),af k1,af k2,ag k6]at au;injection au with au;have HR:=ae au.symm;have HA:=ae (show Calls Tryz.prog 128 #[.pointer (some ⟨b,0,none⟩),.agg (nB 4 0 ⟨#[]⟩ (.slice none 0 0))] w3 _ from CQ bg.o hnx { Nd.zero with kind:=4 } rfl);have e6:(kd == 6)=true:=bB.2 (by omega);rw[hkd]at x0;clear au hd ht k1 k2 k6 hkd h;go_wp2_with (go_at_call 128;((with_reducible refine HA.o.mono ?_);rintro e w7 ⟨h1,rfl,bu,h3⟩;have cz:=ae (dY.o.trans h1);have bO:=ae h3;clear h1 h3))
   go_ret;exact Out.leaf HR.o cz.o rfl bO.o
 have e6:(kd == 6)=false:=aA.2 (by omega);by_cases k4:t.kind=4
 · have hnx:=h.fit.next ht (by omega)
   rw[Fq (by omega),af (by decide),af k1,af k2,af k6,ag k4]at au;injection au with au;have HA:=ae (af4 bg.o t hnx vs.length);rw[au]at HA;have e4:(kd == 4)=true:=bB.2 (by omega);rw[hkd]at x0;clear au hd ht k1 k2 k6 k4 hkd h;go_wp2_with (go_at_call 129;((with_reducible refine HA.o.mono ?_);intro e w7 ho;have oP:=ae (Out.from dY.o ho);obtain⟨c,rfl⟩:=ho.ret;clear ho))
   go_ret;exact oP.o
 have e4:(kd == 4)=false:=aA.2 (by omega);by_cases k3:t.kind=3
 · have hnx:=h.fit.next ht (by omega)
   rw[Fq (by omega),af (by decide),af k1,af k2,af k6,af k4,ag k3]at au;have HA:=ae (agm f IH t.text bg.o hnx res au);have e3:(kd == 3)=true:=bB.2 (by omega);rw[hkd]at x0;clear au hd ht k1 k2 k6 k4 k3 hkd h IH;go_wp2_with (go_at_call 130;((with_reducible refine HA.o.mono ?_);intro e w7 ho;have oP:=ae (Out.from dY.o ho);obtain⟨c,rfl⟩:=ho.ret;clear ho))
   go_ret;exact oP.o
 have e3:(kd == 3)=false:=aA.2 (by omega)
 have hb:Gv f deep vs.length (ts.drop p)=some res:=by
  unfold Gv;rw[hd];by_cases c:ay ⟨#[40]⟩ (t :: ts.drop (p+1))=true
  · rw[ag c]at au ⊢;exact au
  · rw[af c,af k1,af k2,af k6,af k4,af k3]at au
    rw[af c];exact au
 have HA:=ae (acM f (IH f (aj _)) bg.o res hb);rw[hkd]at x0;clear au hd ht k1 k2 k6 k4 k3 hkd h IH hb;go_wp2_with (go_at_call 131;((with_reducible refine HA.o.mono ?_);intro e w7 ho;have oP:=ae (Out.from dY.o ho);obtain⟨c,rfl⟩:=ho.ret;clear ho))
 go_ret;exact oP.o
end Go.Proofs.YtbplbjmmfgjdjaaGreatDoor
