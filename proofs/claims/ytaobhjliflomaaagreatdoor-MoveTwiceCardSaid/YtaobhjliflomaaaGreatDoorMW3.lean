import Derived.Test.YtaobhjliflomaaaGreatDoorMW2
set_option maxRecDepth 100000
set_option maxHeartbeats 64000000
namespace Go.Proofs.YtaobhjliflomaaaGreatDoor
open Go.RowKit
theorem Wm (l ds:List Int)(h:l.takeWhile isWord=ds):mZ l=match iw (strOfNums ds)with
 | some d=>some ({ ai.zero with kind:=4,sh:=d.sh,c:=d.c,r:=d.r,ac:=d.ac,ar:=d.ar },ds.length)
 | none=>if jI ds=true then some ({ ai.zero with kind:=3,text:=strOfNums ds },ds.length)else none:=by subst h;rfl
theorem aiK (b:Nat)(s:ByteArray)(k:Nat)(w:World)(h:bW w b s k)(_hs:s.size≤1000000)(_hk:k<s.size)(hd:nZ ((s[k].toNat:Nat):Int)=true) :
 Calls Tryz.prog 141 #[.pointer (some ⟨b,0,none⟩)] w (o7 (mZ (aD s k)) b s k w):=by
 have hlt:=h.lt;have hw0:w.heap.size≠b:=by omega
 obtain⟨ds,hds⟩:∃ds,(aD s k).takeWhile isWord=ds:=⟨_,rfl⟩;obtain⟨D,hD⟩:∃D,strOfNums ds=D:=⟨_,rfl⟩;have hbd:Bytes ds:=fun x hx=>M0 s k x (by rw[← hds]at hx;exact(List.takeWhile_prefix _).subset hx)
 have uh:sb D=ds:=by rw[← hD];exact jD ds hbd
 have abw:D.size=ds.length:=by rw[← bz,uh]
 have hlen:ds.length≤s.size:=by rw[← hds];have h0:=Bv isWord (aD s k);rw[og]at h0;omega
 have hW:=(aiF b s k _ h.tok _hs (by omega)).mono (R':=fun e w'=>(w.alloc (.cells ku 71)).grownBy w' (some b)∧e = .returned (.string D)∧bW w' b s (k+ds.length)) (fun e w' ⟨x1,x2,x3⟩=>⟨x1,by rw[x2,hds,hD],by rw[hds]at x3;exact x3⟩);have HW:=ae hW;clear hW h;have bu:=ae (Cy w b);have aR:=ae (aG.zero w);have hN:=Wm (aD s k) ds hds;rw[hD]at hN
 have hhd:ds.head? = some ((s[k].toNat:Nat):Int):=by
  have h0:=zD s k 0 (by omega);rw[← hds];cases hr:aD s k with
  | nil=>rw[hr]at h0;simp at h0
  | cons x l =>
    rw[hr]at h0;simp at h0;have hwd:isWord x=true:=by rw[GN,h0,hd];rfl
    rw[List.takeWhile_cons,hwd];simp[h0]
 rw[← adX hhd hd]at hN;have hmx:D.size≤1000000:=by omega
 clear hhd hd hbd hds hlen hD;cases hq:iw D with
 | some d =>
   rw[hq]at hN;have HN:=ae hN;clear hN;have hsz:d.sh.size≤12:=(yn D d hq).1;have qa:=ae (fun (e:Ending)(he:nT (sb D) e)=>Iw hq he);clear hq uh;go_enter Tryz.func141,Tryz.ntmps141
   go_upto_region 4 with (first
    | (go_at_call 112;((with_reducible refine HW.o.mono ?_);rintro e w1 ⟨h1,rfl,h2⟩;have H1:=ae h1;have H2:=ae h2;clear h1 h2))
    | (go_at_call 159;((with_reducible refine(UA D _ ?_).mono ?_);(first|omega|skip);rintro e w2 ⟨h1,h2⟩;obtain rfl:=qa.o e h1;clear h1;have H3:=ae h2;clear h2;have HL2:=ae (H2.o.below H3.o H2.o.lt);have HT2:=ae ((aR.o.grown H1.o hw0).below H3.o (aR.o.grown H1.o hw0).lt);have lu:=HT2.o.lt;have xW:w.heap.size≠w2.heap.size:=Nat.ne_of_lt lu;obtain⟨x0,x1,x2,x3,x4,x5,x6,x7,ay⟩:=HT2.o.cells;obtain⟨f0,f1,f2,f3,f4,f5,f6,f7,f8⟩:=HT2.o.bS)))
   have nE:=df.new w2 d.sh d.c d.r d.ac d.ar;have hB3:Below w2.heap.size w2 (w2.alloc (.cells #[.string d.sh,.int .i64 d.c,.int .i64 d.r,.bool d.ac,.bool d.ar] 43)):=(ak _ _).alloc (aj _) _;have yJ:=ae (HL2.o.below hB3 HL2.o.lt);have HT3:=ae (HT2.o.below hB3 HT2.o.lt);have fG:=ae (grownBy.below' (grownBy.below' (grownBy.trans' bu.o H1.o) H3.o) hB3);clear x0 x1 x2 x3 x4 x5 x6 x7 ay f0 f1 f2 f3 f4 f5 f6 f7 f8 hB3;generalize w2.alloc (.cells #[.string d.sh,.int .i64 d.c,.int .i64 d.r,.bool d.ac,.bool d.ar] 43)=w3 at nE yJ HT3 fG ⊢;obtain⟨x0,x1,x2,x3,x4,x5,x6,x7,ay⟩:=HT3.o.cells;obtain⟨f0,f1,f2,f3,f4,f5,f6,f7,f8⟩:=HT3.o.bS;obtain⟨y0,y1,y2,y3,y4⟩:=nE.facts;clear nE;go_wp2_with fail
   exact bodyPost_ret (pI (HT3.o.iI { ai.zero with kind:=4,sh:=d.sh,c:=d.c,r:=d.r,ac:=d.ac,ar:=d.ar }) _ _ true 2 3 MZ rfl rfl) rfl ⟨grownBy.kU fG.o (aj _) _ _ _ _ _ _ _ _ _,.inl ⟨_,_,HN.o,rfl,yJ.o.kU hw0 _ _ _ _ _ _ _ _ _⟩⟩
 | none =>
   rw[hq]at hN;have qa:=ae (fun (e:Ending)(he:nT (sb D) e)=>Iu hq he);clear hq;cases hnm:yg ds
   all_goals
    rw[hnm]at hN;have HN:=ae hN;clear hN;have DF:=ae (show yg (sb D)=_ by rw[uh,hnm]);clear hnm uh;go_enter Tryz.func141,Tryz.ntmps141
    go_upto_region 5 with (first
     | (go_at_call 112;((with_reducible refine HW.o.mono ?_);rintro e w1 ⟨h1,rfl,h2⟩;have H1:=ae h1;have H2:=ae h2;clear h1 h2))
     | (go_at_call 159;((with_reducible refine(UA D _ ?_).mono ?_);(first|omega|skip);rintro e w2 ⟨h1,h2⟩;obtain rfl:=qa.o e h1;clear h1;have H3:=ae h2;clear h2;have HL2:=ae (H2.o.below H3.o H2.o.lt);have HT2:=ae ((aR.o.grown H1.o hw0).below H3.o (aR.o.grown H1.o hw0).lt))))
    have hB3:Below w2.heap.size w2 (w2.alloc (.cells #[.string ⟨#[]⟩,.int .i64 0,.int .i64 0,.bool false,.bool false] 43)):=(ak _ _).alloc (aj _) _;have yJ:=ae (HL2.o.below hB3 HL2.o.lt);have HT3:=ae (HT2.o.below hB3 HT2.o.lt);have fG:=ae (grownBy.below' (grownBy.below' (grownBy.trans' bu.o H1.o) H3.o) hB3);clear hB3;generalize w2.alloc (.cells #[.string ⟨#[]⟩,.int .i64 0,.int .i64 0,.bool false,.bool false] 43)=w3 at yJ HT3 fG ⊢;obtain⟨x0,x1,x2,x3,x4,x5,x6,x7,ay⟩:=HT3.o.cells;obtain⟨f0,f1,f2,f3,f4,f5,f6,f7,f8⟩:=HT3.o.bS;go_wp2_with (go_at_call 160;((with_reducible refine(abS D _ ?_).mono ?_);(first|omega|skip);rintro e w4 ⟨rfl,rfl⟩;rw[DF.o]))
   · exact bodyPost_ret (pI (HT3.o.iI { ai.zero with kind:=3,text:=D }) _ _ false 2 3 MZ rfl rfl) rfl ⟨grownBy.kU fG.o (aj _) _ _ _ _ _ _ _ _ _,.inr ⟨HN.o,{ ai.zero with kind:=3,text:=D },rfl⟩⟩
   · exact bodyPost_ret (pI (HT3.o.iI { ai.zero with kind:=3,text:=D }) _ _ true 2 3 MZ rfl rfl) rfl ⟨grownBy.kU fG.o (aj _) _ _ _ _ _ _ _ _ _,.inl ⟨_,_,HN.o,rfl,yJ.o.kU hw0 _ _ _ _ _ _ _ _ _⟩⟩
theorem age {P:Program}{w:World}(t e:TypeId)(n:Nat)(cs:Array Value)(k:Nat)(v:Value)(d:TypeDesc)(h:P.underlying t=some (.array n e))(he:P.underlying e=some d)(hd:(match d with | .struct _ | .array _ _=>true|_=>false)=false)
 (hsz:(P.info? e).map (·.size)=some 1) (hk:k<n) (hv:cs[k]? = some v):(Instr.index t (.agg cs) (.int .i64 (k:Int))).run P w = .ok v w:=by
 have h1:(0:Int)≤(k:Int)∧(k:Int)<(n:Int):=by omega
 cases hq:P.info? e with
 | none=>simp[hq]at hsz
 | some i =>
   have hs':i.size=1:=by simp[hq]at hsz;exact hsz
   simp[Instr.index,run_underlying h,asIntOf,h1,sizeOf,typeInfo,hq,hs',part,isAgg,run_underlying he,hv,go_sem];cases d <;> simp_all
theorem Wo {P:Program}{ops:Array Oper}{rest:List Oper}{op:Oper}{a:Act}{w:World}{Q:Exit→Act→World→Prop}(hgd:op.guard=none)(t e:TypeId)(n:Nat)(x y:Operand)(ho:op.op = .index t x y)
 (cs:Array Value) (k:Nat) (v:Value) (d:TypeDesc) (h:P.underlying t=some (.array n e)) (he:P.underlying e=some d) (hd:(match d with | .struct _ | .array _ _=>true|_=>false)=false)
 (hsz:(P.info? e).map (·.size)=some 1) (hx:a.eval x = .agg cs) (hy:a.eval y = .int .i64 (k:Int)) (hk:k<n) (hv:cs[k]? = some v)
 (hh:wpList P ops Q rest (a.put op.dst v) w):wpList P ops Q (op :: rest) a w :=
 wpList_plain hgd fun _ hK=>by
  unfold Oper.wp execOp;simp only[ho,hx,hy,Sem.run_bind,Sem.run_pure,Result.andThen_ok,age t e n cs k v d h he hd hsz hk hv];exact hK _ _ hh
def nL:List (List Int):=[[60,62],[60,61],[62,61],[43],[45],[42],[47],[38],[61],[60],[62],[40],[41],[44],[58]]
def Vm:List ByteArray:=[⟨#[60,62]⟩,⟨#[60,61]⟩,⟨#[62,61]⟩,⟨#[43]⟩,⟨#[45]⟩,⟨#[42]⟩,⟨#[47]⟩,⟨#[38]⟩,⟨#[61]⟩,⟨#[60]⟩,⟨#[62]⟩,⟨#[40]⟩,⟨#[41]⟩,⟨#[44]⟩,⟨#[58]⟩]
def zH:Array Value:=(Vm.map Value.string).toArray
theorem ahb:∀j:Nat,j<15→∃t,Vm[j]? = some t∧zH[j]? = some (.string t)∧sb t=nL.getD j []∧t.size≤2∧t=strOfNums (nL.getD j [])
 | 0,_=>⟨_,rfl,rfl,by decide,by decide,by decide +kernel⟩
 | 1,_=>⟨_,rfl,rfl,by decide,by decide,by decide +kernel⟩
 | 2,_=>⟨_,rfl,rfl,by decide,by decide,by decide +kernel⟩
 | 3,_=>⟨_,rfl,rfl,by decide,by decide,by decide +kernel⟩
 | 4,_=>⟨_,rfl,rfl,by decide,by decide,by decide +kernel⟩
 | 5,_=>⟨_,rfl,rfl,by decide,by decide,by decide +kernel⟩
 | 6,_=>⟨_,rfl,rfl,by decide,by decide,by decide +kernel⟩
 | 7,_=>⟨_,rfl,rfl,by decide,by decide,by decide +kernel⟩
 | 8,_=>⟨_,rfl,rfl,by decide,by decide,by decide +kernel⟩
 | 9,_=>⟨_,rfl,rfl,by decide,by decide,by decide +kernel⟩
 | 10,_=>⟨_,rfl,rfl,by decide,by decide,by decide +kernel⟩
 | 11,_=>⟨_,rfl,rfl,by decide,by decide,by decide +kernel⟩
 | 12,_=>⟨_,rfl,rfl,by decide,by decide,by decide +kernel⟩
 | 13,_=>⟨_,rfl,rfl,by decide,by decide,by decide +kernel⟩
 | 14,_=>⟨_,rfl,rfl,by decide,by decide,by decide +kernel⟩
 | j+15,h=>by omega
theorem El (a b:Int)(l:List Int):kQ [a,b] l=true↔l.head? = some a∧l.tail.head? = some b:=by
 unfold kQ;rw[aK]
 match l with
 | []=>simp
 | [x]=>simp
 | x :: y :: m=>simp
theorem Q6 (a:Int)(l:List Int):kQ [a] l=true↔l.head? = some a:=by
 unfold kQ;rw[aK]
 match l with
 | []=>simp
 | x :: m=>simp
theorem ahe:∀j:Nat,j<15→∀l:List Int,(∀q,q<j→kQ (nL.getD q []) l=false)→kQ (nL.getD j []) l=true→oP l=some ({ ai.zero with kind:=5,text:=strOfNums (nL.getD j []) },(nL.getD j []).length):=by
 intro j hj l hno cB
 have hlen:lF l=(nL.getD j []).length:=by
  have hn0:∀a b q,q<j→nL.getD q []=[a,b]→¬ (l.head? = some a∧l.tail.head? = some b):=by
   intro a b q hq he h;have:=hno q hq;rw[he,(El a b l).2 h]at this;cases this
  cases l with
  | nil =>
    exfalso;have:∀j,j<15→nL.getD j []≠[]:=by decide
    unfold kQ at cB;rw[aK,List.take_nil]at cB;exact this j hj cB.symm
  | cons x m =>
    rw[sP];simp only[List.head?_cons,List.tail_cons,bf]at hn0
    match j,hj with
    | 0,_=>obtain⟨h1,h2⟩:=(El _ _ _).1 cB;simp at h1 h2;rw[ah (by left;exact⟨h1,.inl h2⟩)];rfl
    | 1,_=>obtain⟨h1,h2⟩:=(El _ _ _).1 cB;simp at h1 h2;rw[ah (by left;exact⟨h1,.inr h2⟩)];rfl
    | 2,_=>obtain⟨h1,h2⟩:=(El _ _ _).1 cB;simp at h1 h2;rw[ah (by right;exact⟨h1,h2⟩)];rfl
    | j + 3,hj =>
      have g0:=hn0 60 62 0 (by omega) rfl;have g1:=hn0 60 61 1 (by omega) rfl;have g2:=hn0 62 61 2 (by omega) rfl
      rw [ag (by
       rintro(⟨h1,h2|h2⟩|⟨h1,h2⟩)
       · exact g0 ⟨h1,h2⟩
       · exact g1 ⟨h1,h2⟩
       · exact g2 ⟨h1,h2⟩)]
      have hx:∃a,nL.getD (j+3) []=[a]∧(a=43∨a=45∨a=42∨a=47∨a=38∨a=61∨a=60∨a=62∨a=40∨a=41∨a=44∨a=58):=by
       have:∀j,j<12→∃a,nL.getD (j+3) []=[a]∧(a=43∨a=45∨a=42∨a=47∨a=38∨a=61∨a=60∨a=62∨a=40∨a=41∨a=44∨a=58):=by
        intro j hj
        match j,hj with
        | 0,_=>exact⟨43,rfl,by omega⟩
        | 1,_=>exact⟨45,rfl,by omega⟩
        | 2,_=>exact⟨42,rfl,by omega⟩
        | 3,_=>exact⟨47,rfl,by omega⟩
        | 4,_=>exact⟨38,rfl,by omega⟩
        | 5,_=>exact⟨61,rfl,by omega⟩
        | 6,_=>exact⟨60,rfl,by omega⟩
        | 7,_=>exact⟨62,rfl,by omega⟩
        | 8,_=>exact⟨40,rfl,by omega⟩
        | 9,_=>exact⟨41,rfl,by omega⟩
        | 10,_=>exact⟨44,rfl,by omega⟩
        | 11,_=>exact⟨58,rfl,by omega⟩
        | j+12,h=>omega
       exact this j (by omega)
      obtain⟨a,ha,hor⟩:=hx;rw[ha]at cB ⊢;have h1:=(Q6 _ _).1 cB;simp at h1;subst h1;rw[ah hor];rfl
 have mE:(nL.getD j []).length≠0:=by
  have:∀j,j<15→(nL.getD j []).length≠0:=by decide
  exact this j hj
 unfold oP;rw[hlen,ag mE];unfold kQ at cB;rw[aK]at cB;rw[cB]
theorem ahc (l:List Int)(hno:∀q,q<15→kQ (nL.getD q []) l=false):oP l=none:=by
 have h2:∀a b q,q<15→nL.getD q []=[a,b]→¬ (l.head? = some a∧l.tail.head? = some b):=by
  intro a b q hq he h;have:=hno q hq;rw[he,(El a b l).2 h]at this;cases this
 have h1:∀a q,q<15→nL.getD q []=[a]→¬ l.head? = some a:=by
  intro a q hq he h;have:=hno q hq;rw[he,(Q6 a l).2 h]at this;cases this
 have hz:lF l=0:=by
  cases l with
  | nil=>rfl
  | cons x m =>
    rw[sP];simp only[List.head?_cons,List.tail_cons,bf]at h1 h2;have g0:=h2 60 62 0 (by omega) rfl;have g1:=h2 60 61 1 (by omega) rfl;have g2:=h2 62 61 2 (by omega) rfl;have k3:=h1 43 3 (by omega) rfl;have k4:=h1 45 4 (by omega) rfl;have k5:=h1 42 5 (by omega) rfl;have k6:=h1 47 6 (by omega) rfl;have k7:=h1 38 7 (by omega) rfl;have k8:=h1 61 8 (by omega) rfl;have k9:=h1 60 9 (by omega) rfl;have k10:=h1 62 10 (by omega) rfl;have k11:=h1 40 11 (by omega) rfl;have k12:=h1 41 12 (by omega) rfl;have k13:=h1 44 13 (by omega) rfl;have k14:=h1 58 14 (by omega) rfl
    rw [ag (by
     rintro(⟨h1,h2|h2⟩|⟨h1,h2⟩)
     · exact g0 ⟨h1,h2⟩
     · exact g1 ⟨h1,h2⟩
     · exact g2 ⟨h1,h2⟩),ag (by omega)]
 unfold oP;rw[ah hz]
def wC(w:World):Prop:=∃ty fr,w.heap[(1:Nat)]? = some (.cells zH ty fr)
theorem wC.lt{w:World}(h:wC w):1<w.heap.size:=by obtain⟨_,_,h⟩:=h;exact(dn.1 h).1
theorem wC.grown {w w':World}{b:Nat}(h:wC w)(hg:w.grownBy w' (some b))(hb:max 8 1<b):wC w':=by
 have h0:=h.lt;obtain⟨ty,fr,h1⟩:=h;exact⟨ty,fr,by rw[hg.block _ h0 (by intro e;have:=dU e;omega)];exact h1⟩
theorem wC.below {w w':World}(h:wC w)(hb:Below w.heap.size w w'):wC w':=by
 have h0:=h.lt;obtain⟨ty,fr,h1⟩:=h;exact⟨ty,fr,by rw[hb.block _ h0];exact h1⟩
theorem yA.below{w w':World}(h:yA w)(hb:Below w.heap.size w w'):yA w':=h.grown (b:=w.heap.size+8+1) (grownBy.PN hb) (by omega)
theorem UO:Tryz.f142.results=#[.cell 2 71,.tmp 3]:=by kernel_rfl
theorem Nn:Tryz.prog.underlying 170=some (.array 15 9):=Tryz.underlying170
theorem ahd:(Tryz.prog.info? 170).map (·.size)=some zH.size:=by kernel_rfl
theorem VG:(Tryz.prog.info? 9).map (·.size)=some 1:=by kernel_rfl
theorem ahh (b:Nat)(s:ByteArray)(k:Nat)(w:World)(h:bW w b s k)(_hs:s.size≤1000000)(_hk:k<s.size)(hsv:wC w)(hb2:max 8 1<b) :
 Calls Tryz.prog 142 #[.pointer (some ⟨b,0,none⟩)] w (o7 (oP (aD s k)) b s k w):=by
 have hlt:=h.lt;have hw0:w.heap.size≠b:=by omega
 obtain⟨ty,fr,Ew⟩:=hsv.grown (Cy w b) hb2;clear hsv;have bu:=ae (Cy w b);have aR:=ae (aG.zero w);have xk:=ae h.tok;clear h;have JP:=ae Ew;clear Ew;go_enter Tryz.func142,Tryz.ntmps142;go_upto_region 1 with (fail)
 refine wp_region_lit ?_;refine wpList_load_row rfl 170 (.global 1) rfl 1 rfl ty zH fr _ JP.o Nn rfl ahd ?_;go_wp2_with fail
 go_loopw [7] (fun i wr=>∃j:Nat,j≤15∧i = .int .i64 j∧Hid (∀q,q<j→kQ (nL.getD q []) (aD s k)=false)∧Hid (bW wr b s k)∧Hid ((w.alloc (.cells ku 71)).grownBy wr (some b)))
  (fun i _=>15 - (intOf i).toNat)
 case atStart=>exact⟨0,by omega,rfl,ae (by intro q hq;omega),xk,ae (grownBy.fP _ _)⟩
 case round =>
  obtain⟨j,hj,rfl,eu,HR,HG⟩:=hrel;by_cases hlt:j<15
  · have hji:(j:Int)<15:=by omega
    obtain⟨t,ht1,ht2,ht3,ht4,RI⟩:=ahb j hlt;have hT:=VL b s t k wr HR.o _hs (by omega) (by omega);rw[ht3]at hT;have HT2:=ae ht2;have HT3:=ae ht3;have XM:=ae RI;clear ht1 ht2 ht3 RI;cases hq:kQ (nL.getD j []) (aD s k)
    · rw [hq]at hT
      have HT:=ae hT;have HQ:=ae hq;clear hT hq;go_upto_region 3 with (fail)
      refine wp_region_lit ?_;refine Wo rfl 170 9 15 (.tmp 6) (.tmp 7) rfl zH j (.string t) _ Nn Tryz.underlying9 rfl VG rfl rfl hlt HT2.o ?_;go_wp2_with (go_at_call 156;((with_reducible refine HT.o.mono ?_);rintro e w1 ⟨h1,rfl,h2⟩;have H1:=ae h1;have H2:=ae h2;clear h1 h2))
      go_roundw
      case rel =>
       refine⟨j+1,by omega,by go_num,ae ?_,H2,ae (grownBy.trans' HG.o H1.o)⟩;intro q hq;by_cases hqj:q<j
       · exact eu.o q hqj
       · rw[show q=j from by omega];exact HQ.o
      case measure=>simp[intOf];omega
    · rw[hq]at hT
      have HT:=ae hT;clear hT;have hsz:t.size=(nL.getD j []).length:=by rw[← HT3.o,bz]
      have hN:=ahe j hlt (aD s k) eu.o hq;rw[← XM.o, ← hsz]at hN;have HN:=ae hN;clear hN hq hsz;go_upto_region 3 with (fail)
      refine wp_region_lit ?_;refine Wo rfl 170 9 15 (.tmp 6) (.tmp 7) rfl zH j (.string t) _ Nn Tryz.underlying9 rfl VG rfl rfl hlt HT2.o ?_;go_wp2_with (go_at_call 156;((with_reducible refine HT.o.mono ?_);rintro e w1 ⟨h1,rfl,h2⟩;have H1:=ae (grownBy.trans' HG.o h1);have H2:=ae h2;clear h1 h2;have HT2:=ae (aR.o.grown H1.o hw0);obtain⟨x0,x1,x2,x3,x4,x5,x6,x7,ay⟩:=HT2.o.cells;obtain⟨f0,f1,f2,f3,f4,f5,f6,f7,f8⟩:=HT2.o.bS))
      exact bodyPost_ret (pI (HT2.o.iI { ai.zero with kind:=5,text:=t }) _ _ true 2 3 UO rfl rfl) rfl ⟨grownBy.kU (grownBy.trans' bu.o H1.o) (aj _) _ _ _ _ _ _ _ _ _,.inl ⟨_,_,HN.o,rfl,H2.o.kU hw0 _ _ _ _ _ _ _ _ _⟩⟩
  · have hji:¬ (j:Int)<15:=by omega
    have HN:=ae (ahc (aD s k) (fun q hq=>eu.o q (by omega)));have HT2:=ae (aR.o.grown HG.o hw0);obtain⟨x0,x1,x2,x3,x4,x5,x6,x7,ay⟩:=HT2.o.cells;obtain⟨f0,f1,f2,f3,f4,f5,f6,f7,f8⟩:=HT2.o.bS;go_wp2_with fail
    exact bodyPost_ret (pI (HT2.o.iI ai.zero) _ _ false 2 3 UO rfl rfl) rfl ⟨grownBy.kU (grownBy.trans' bu.o HG.o) (aj _) _ _ _ _ _ _ _ _ _,.inr ⟨HN.o,ai.zero,rfl⟩⟩
def nR(s:ByteArray)(k p:Nat)(xs:List Int):Prop:=eT (aD s (k+1))=(eT (aD s p)).map fun q=>(xs++q.1,p - (k+1)+q.2)
theorem nJ (s:ByteArray)(p:Nat)(h:p<s.size):aD s p=((s[p].toNat:Nat):Int) :: aD s (p+1):=by
 unfold aD;rw[List.drop_eq_getElem_cons (by rw[bz];exact h)];congr 1;have:=qC s p h;rw[dL (by rw[bz];exact h)]at this;exact dU this
theorem EO (s:ByteArray)(p:Nat)(h:s.size≤p):aD s p=[]:=by
 apply kV;rw[og];omega
theorem Uv {s:ByteArray}{k p:Nat}{xs:List Int}(h:nR s k p xs)(hp:s.size≤p):lC (aD s (k+1))=none:=by
 unfold nR at h;unfold lC;rw[h,EO s p hp];rfl
theorem Uw {s:ByteArray}{k p:Nat}{xs:List Int}(h:nR s k p xs)(hp:p<s.size)(hc:((s[p].toNat:Nat):Int)<32):lC (aD s (k+1))=none:=by
 unfold nR at h;unfold lC;rw[h,nJ s p hp,uy,ah hc];rfl
theorem Ux {s:ByteArray}{k p:Nat}{xs:List Int}{a:Int}(h:nR s k p xs)(hk:k+1≤p)(hp:p<s.size)(ha:((s[p].toNat:Nat):Int)=a)(h1:¬ a<32)(h2:¬ a=34):nR s k (p+1) (xs++[a]):=by
 unfold nR at h ⊢;rw[h,nJ s p hp,uy,ha,ag h1,ah h2];cases eT (aD s (p+1))with
 | none=>rfl
 | some q =>
   simp only[jo,bf,bE,bN,dx,iy,true_and];omega
theorem Uy {s:ByteArray}{k p:Nat}{xs:List Int}(h:nR s k p xs)(hk:k+1≤p)(hp:p<s.size)(ha:((s[p].toNat:Nat):Int)=34)(hp2:p+1<s.size)(ha2:((s[p+1].toNat:Nat):Int)=34):nR s k (p+1+1) (xs++[34]):=by
 unfold nR at h ⊢;rw[h,nJ s p hp,nJ s (p+1) hp2,uy,ha,ha2,ag (by omega),ag (by omega)];simp only[if_true];cases eT (aD s (p+1+1))with
 | none=>rfl
 | some q =>
   simp only[jo,bf,bE,bN,dx,iy,true_and];omega
theorem Ie {s:ByteArray}{k p:Nat}{xs:List Int}(h:nR s k p xs)(hk:k+1≤p)(hp:p<s.size)(ha:((s[p].toNat:Nat):Int)=34)(h2:∀h:p+1<s.size,¬ ((s[p+1].toNat:Nat):Int)=34) :
 lC (aD s (k+1))=some ({ ai.zero with kind:=2,text:=strOfNums xs },p+1 - k):=by
 unfold nR at h
 have hq:eT (aD s p)=some ([],1):=by
  rw[nJ s p hp,uy,ha,ag (by omega),ag (by omega)];by_cases hp2:p+1<s.size
  · rw[nJ s (p+1) hp2]
    simp only[ag (h2 hp2)]
  · rw[EO s (p+1) (by omega)]
 unfold lC;rw[h,hq];simp only[jo,fF,bf,bE,true_and];omega
theorem grownBy.PL {a w w':World}{r:Option Nat}(h:a.grownBy w r)(k:Below (a.heap.size+1) w w'):a.grownBy w' r :=
 ⟨k.os.trans h.os,k.tape.trans h.tape,k.output.trans h.output,bO h.size k.size,fun j hj hr=>(k.block j (by omega)).trans (h.block j hj hr)⟩
theorem Ik:Tryz.f138.results=#[.cell 2 71,.tmp 3]:=by kernel_rfl
theorem ae5 (b:Nat)(s:ByteArray)(k:Nat)(w:World)(h:bW w b s k)(_hs:s.size≤1000000)(_hk:k<s.size) :
 Calls Tryz.prog 138 #[.pointer (some ⟨b,0,none⟩)] w (o7 (lC (aD s (k+1))) b s k w):=by
 have hlt:=h.lt;have hw0:w.heap.size≠b:=by omega
 have Eh:b<w.heap.size+1:=by omega
 obtain⟨c0,c1⟩:=h.tok.facts;have f1:=h.tok.frozen 1;have QL:w.grownBy ((w.setCell ⟨b,1,none⟩ (.int .i64 ((k:Int)+1))).alloc (.cells ku 71)) (some b):=grownBy.below' (grownBy.gU (grownBy.fP _ _) _ _) ((ak _ _).alloc (aj _) _);have bu:=ae QL;clear QL;have KV:=aG.zero (w.setCell ⟨b,1,none⟩ (.int .i64 ((k:Int)+1)));rw[show(w.setCell ⟨b,1,none⟩ (.int .i64 ((k:Int)+1))).heap.size=w.heap.size by simp]at KV;have aR:=ae KV;clear KV;have xk:=ae (h.yt.tok);clear h;go_enter Tryz.func138,Tryz.ntmps138;go_wp2_with fail
 clear c0 c1 f1
 go_loopw [4] (fun v wr=>∃(p:Nat)(xs:List Int),k+1≤p∧p≤s.size∧xs.length≤p∧Hid (Bytes xs)∧Hid (nR s k p xs)∧Hid (bW wr b s p)∧Hid (qc wr (w.heap.size+1) v xs)∧Hid (aG wr w.heap.size ai.zero)∧Hid (w.grownBy wr (some b)))
  (fun _ wr=>nI b s.size wr)
 case atStart =>
  refine⟨k+1,[],by omega,by omega,by simp,ae Bytes.nil,ae ?_,xk,ae (Own.nil _ _ _ _),aR,bu⟩;unfold nR;cases eT (aD s (k+1))with
  | none=>rfl
  | some q=>simp
 case round =>
  obtain⟨p,xs,hkp,hps,hxl,xc,HQ,HR,HO,HT,HG⟩:=hrel;clear bu aR xk;have Rj:=HR.o.nI s.size;have yK:=ae Rj;clear Rj;obtain⟨c0,c1⟩:=HR.o.facts;have f1:=HR.o.frozen 1;by_cases hlt:p<s.size
  · have lu : (p:Int)<(s.size:Int):=by omega
    obtain⟨a,ha⟩:∃a:Int,(s[p].toNat:Int)=a:=⟨_,rfl⟩;have ha1:0≤a∧a≤255:=by have:=s[p].toNat_lt;omega
    by_cases xU:a<32
    · have HN:=ae (Uw HQ.o hlt (by rw[ha];exact xU))
      go_wp2_with fail
      go_quiet (fail)
      have HR1:=ae (HR.o.drewN nq);have fZ:=ae (HO.o.drewN nq);have HT1:=ae (HT.o.drewN nq);have l5:=ae (grownBy.fJ HG.o nq);generalize wr.drewN nq=w1 at HR1 fZ HT1 l5 ⊢;clear c0 c1 f1 HR HO HT HG;obtain⟨c0,c1⟩:=HR1.o.facts;have f1:=HR1.o.frozen 1;go_wp2_with fail
      go_quiet (fail)
      have HR2:=ae (HR1.o.drewN nq);have nP:=ae (fZ.o.drewN nq);have HT2:=ae (HT1.o.drewN nq);have HG2:=ae (grownBy.fJ l5.o nq);generalize w1.drewN nq=w2 at HR2 nP HT2 HG2 ⊢;clear c0 c1 f1 HR1 fZ HT1 l5;obtain⟨c0,c1⟩:=HR2.o.facts;have f1:=HR2.o.frozen 1;obtain⟨x0,x1,x2,x3,x4,x5,x6,x7,ay⟩:=HT2.o.cells;obtain⟨g0,g1,g2,g3,g4,g5,g6,g7,g8⟩:=HT2.o.bS;go_wp2_with fail
      exact bodyPost_ret (pI (HT2.o.iI ai.zero) _ _ false 2 3 Ik rfl rfl) rfl ⟨grownBy.kU HG2.o (aj _) _ _ _ _ _ _ _ _ _,.inr ⟨HN.o,ai.zero,rfl⟩⟩
    · by_cases dG:a=34
      · have Aw:(a == 34)=true:=bA.2 dG
        obtain⟨q,hq⟩:∃q:Nat,p+1=q:=⟨_,rfl⟩;go_wp2_with fail
        go_quiet (fail)
        have HR1:=ae (HR.o.drewN nq);have fZ:=ae (HO.o.drewN nq);have HT1:=ae (HT.o.drewN nq);have l5:=ae (grownBy.fJ HG.o nq);generalize wr.drewN nq=w1 at HR1 fZ HT1 l5 ⊢;clear c0 c1 f1 HR HO HT HG;obtain⟨c0,c1⟩:=HR1.o.facts;have f1:=HR1.o.frozen 1;go_wp2_with fail
        go_quiet (fail)
        have HR2:=ae (HR1.o.drewN nq);have nP:=ae (fZ.o.drewN nq);have HT2:=ae (HT1.o.drewN nq);have HG2:=ae (grownBy.fJ l5.o nq);generalize w1.drewN nq=w2 at HR2 nP HT2 HG2 ⊢;clear c0 c1 f1 HR1 fZ HT1 l5;obtain⟨c0,c1⟩:=HR2.o.facts;have f1:=HR2.o.frozen 1;go_upto_region 10 with (fail)
        have HR3:=ae (HR2.o.yt);have gQ:=ae (Own.other nP.o (grownBy.gU (grownBy.fP _ _) _ _) Eh:qc (w2.setCell ⟨b,1,none⟩ (.int .i64 ((p:Int)+1))) _ _ _);have HT3:=ae (HT2.o.grown (grownBy.gU (grownBy.fP _ _) 1 (.int .i64 ((p:Int)+1))) hw0);have fG:=ae (grownBy.gU HG2.o 1 (.int .i64 ((p:Int)+1)));generalize w2.setCell ⟨b,1,none⟩ (.int .i64 ((p:Int)+1))=w3 at HR3 gQ HT3 fG ⊢;clear c0 c1 f1 HR2 nP HT2 HG2;obtain⟨c0,c1⟩:=HR3.o.facts;have f1:=HR3.o.frozen 1;have OU:=ae (show bW w3 b s q by rw[← hq];exact HR3.o);clear c0 c1 HR3;have HR3:=OU;clear OU;obtain⟨c0,c1⟩:=HR3.o.facts;have DK:=ae hq;by_cases Cm:q<s.size
        · have aa7:((q:Int) == (s.size:Int))=false:=aA.2 (by omega)
          have ze:(q:Int)<(s.size:Int):=by omega
          obtain⟨a2,ha2⟩:∃a2:Int,(s[q].toNat:Int)=a2:=⟨_,rfl⟩;have aau:0≤a2∧a2≤255:=by have:=s[q].toNat_lt;omega
          by_cases xO:a2=34
          · have KX:(a2 == 34)=true:=bA.2 xO
            have lK:=ae (show nR s k (q+1) (xs++[34])by subst hq;exact Uy HQ.o hkp hlt (by rw[ha,dG]) Cm (by rw[ha2,xO]));clear HQ hq;go_quiet (fail)
            have HR4:=ae (HR3.o.drewN nq);have nQ:=ae (gQ.o.drewN nq);have qb:=ae (HT3.o.drewN nq);have oD:=ae (grownBy.fJ fG.o nq);generalize w3.drewN nq=w4 at HR4 nQ qb oD ⊢;clear c0 c1 f1 HR3 gQ HT3 fG;obtain⟨c0,c1⟩:=HR4.o.facts;have f1:=HR4.o.frozen 1;go_wp2_with (at_builtin;refine ow Elem.u8 (aI .u8) rfl (.tmp 76) (.tmp 78) rfl (w.heap.size+1) _ _ rfl (nQ.o.alloc _) ⟨_,0,none⟩ 1 1 [34] rfl rfl ?_ ?_ ?_ ?_ ?_;exact ic _ _ _ rfl;omega;(unfold maxLen;omega);(have:=qb.o.lt;simp <;> omega);intro v' oz h1 h2;have p8:=ae h1;have kZ:=ae (((ak (w.heap.size+1) _).alloc (by have:=qb.o.lt;omega) _).trans h2);clear h1 h2;have xy:=ae (HR4.o.below kZ.o Eh);have Ac:=ae (qb.o.below kZ.o (Nat.lt_succ_self _));have Ju:=ae (grownBy.PL oD.o kZ.o);clear HR4 nQ qb oD c0 c1 f1;obtain⟨c0,c1⟩:=xy.o.facts;have f1:=xy.o.frozen 1)
            go_roundw
            case rel =>
             refine⟨q+1,xs++[34],by have:=DK.o;omega,by omega,by have:=DK.o;simp;omega,ae (xc.o.append (by intro x hx;simp at hx;omega)),lK,ae xy.o.yt,ae (Own.other p8.o (grownBy.gU (grownBy.fP _ _) _ _) Eh),ae (Ac.o.grown (grownBy.gU (grownBy.fP _ _) _ _) hw0),ae (grownBy.gU Ju.o _ _)⟩
            case measure =>
             have h1:=xy.o.yt.nI s.size;have h2:=DK.o;rw[yK.o];exact Nat.lt_of_le_of_lt (Nat.le_of_eq h1) (by omega)
          · have KX:(a2 == 34)=false:=aA.2 xO
            have HN:=ae (show lC (aD s (k+1))=some ({ ai.zero with kind:=2,text:=strOfNums xs },q - k)by subst hq;exact Ie HQ.o hkp hlt (by rw[ha,dG]) (fun h=>by rw[ha2];exact xO));clear HQ hq;go_quiet (fail)
            have HR4:=ae (HR3.o.drewN nq);have nQ:=ae (gQ.o.drewN nq);have qb:=ae (HT3.o.drewN nq);have oD:=ae (grownBy.fJ fG.o nq);generalize w3.drewN nq=w4 at HR4 nQ qb oD ⊢;clear c0 c1 f1 HR3 gQ HT3 fG;obtain⟨c0,c1⟩:=HR4.o.facts;have f1:=HR4.o.frozen 1;have K3:=CS nQ.o;obtain⟨x0,x1,x2,x3,x4,x5,x6,x7,ay⟩:=qb.o.cells;obtain⟨g0,g1,g2,g3,g4,g5,g6,g7,g8⟩:=qb.o.bS;go_wp2_with fail
            exact bodyPost_ret (pI (qb.o.iI { ai.zero with kind:=2,text:=strOfNums xs }) _ _ true 2 3 Ik rfl rfl) rfl ⟨grownBy.kU oD.o (aj _) _ _ _ _ _ _ _ _ _,.inl ⟨_,_,HN.o,rfl,by rw[show k+(q - k)=q from by have:=DK.o;omega];exact HR4.o.kU hw0 _ _ _ _ _ _ _ _ _⟩⟩
        · have aa7:((q:Int) == (s.size:Int))=true:=bA.2 (by omega)
          have HN:=ae (show lC (aD s (k+1))=some ({ ai.zero with kind:=2,text:=strOfNums xs },q - k)by subst hq;exact Ie HQ.o hkp hlt (by rw[ha,dG]) (fun h=>absurd h Cm));clear HQ hq;go_quiet (fail)
          have HR4:=ae (HR3.o.drewN nq);have nQ:=ae (gQ.o.drewN nq);have qb:=ae (HT3.o.drewN nq);have oD:=ae (grownBy.fJ fG.o nq);generalize w3.drewN nq=w4 at HR4 nQ qb oD ⊢;clear c0 c1 f1 HR3 gQ HT3 fG;obtain⟨c0,c1⟩:=HR4.o.facts;have f1:=HR4.o.frozen 1;have K3:=CS nQ.o;obtain⟨x0,x1,x2,x3,x4,x5,x6,x7,ay⟩:=qb.o.cells;obtain⟨g0,g1,g2,g3,g4,g5,g6,g7,g8⟩:=qb.o.bS;go_wp2_with fail
          exact bodyPost_ret (pI (qb.o.iI { ai.zero with kind:=2,text:=strOfNums xs }) _ _ true 2 3 Ik rfl rfl) rfl ⟨grownBy.kU oD.o (aj _) _ _ _ _ _ _ _ _ _,.inl ⟨_,_,HN.o,rfl,by rw[show k+(q - k)=q from by have:=DK.o;omega];exact HR4.o.kU hw0 _ _ _ _ _ _ _ _ _⟩⟩
      · have Aw:(a == 34)=false:=aA.2 dG
        have lK:=ae (Ux HQ.o hkp hlt ha xU dG);clear HQ;go_wp2_with fail
        go_quiet (fail)
        have HR1:=ae (HR.o.drewN nq);have fZ:=ae (HO.o.drewN nq);have HT1:=ae (HT.o.drewN nq);have l5:=ae (grownBy.fJ HG.o nq);generalize wr.drewN nq=w1 at HR1 fZ HT1 l5 ⊢;clear c0 c1 f1 HR HO HT HG;obtain⟨c0,c1⟩:=HR1.o.facts;have f1:=HR1.o.frozen 1;go_wp2_with fail
        go_quiet (fail)
        have HR2:=ae (HR1.o.drewN nq);have nP:=ae (fZ.o.drewN nq);have HT2:=ae (HT1.o.drewN nq);have HG2:=ae (grownBy.fJ l5.o nq);generalize w1.drewN nq=w2 at HR2 nP HT2 HG2 ⊢;clear c0 c1 f1 HR1 fZ HT1 l5;obtain⟨c0,c1⟩:=HR2.o.facts;have f1:=HR2.o.frozen 1;go_wp2_with (at_builtin;refine ow Elem.u8 (aI .u8) rfl (.tmp 76) (.tmp 78) rfl (w.heap.size+1) _ _ rfl (nP.o.alloc _) ⟨_,0,none⟩ 1 1 [a] rfl rfl ?_ ?_ ?_ ?_ ?_;exact ic _ _ _ rfl;omega;(unfold maxLen;omega);(have:=HT2.o.lt;simp <;> omega);intro v' oz h1 h2;have p8:=ae h1;have kZ:=ae (((ak (w.heap.size+1) _).alloc (by have:=HT2.o.lt;omega) _).trans h2);clear h1 h2;have xy:=ae (HR2.o.below kZ.o Eh);have Ac:=ae (HT2.o.below kZ.o (Nat.lt_succ_self _));have Ju:=ae (grownBy.PL HG2.o kZ.o);clear HR2 nP HT2 HG2 c0 c1 f1;obtain⟨c0,c1⟩:=xy.o.facts;have f1:=xy.o.frozen 1)
        go_roundw
        case rel =>
         refine⟨p+1,xs++[a],by omega,by omega,by simp;omega,ae (xc.o.append (by intro x hx;simp at hx;omega)),lK,ae xy.o.yt,ae (Own.other p8.o (grownBy.gU (grownBy.fP _ _) _ _) Eh),ae (Ac.o.grown (grownBy.gU (grownBy.fP _ _) _ _) hw0),ae (grownBy.gU Ju.o _ _)⟩
        case measure =>
         have h1:=xy.o.yt.nI s.size;rw[yK.o];exact Nat.lt_of_le_of_lt (Nat.le_of_eq h1) (by omega)
  · have lu:¬ (p:Int)<(s.size:Int):=by omega
    have HN:=ae (Uv HQ.o (by omega));go_wp2_with fail
    go_quiet (fail)
    have HR1:=ae (HR.o.drewN nq);have fZ:=ae (HO.o.drewN nq);have HT1:=ae (HT.o.drewN nq);have l5:=ae (grownBy.fJ HG.o nq);generalize wr.drewN nq=w1 at HR1 fZ HT1 l5 ⊢;clear c0 c1 f1 HR HO HT HG;obtain⟨c0,c1⟩:=HR1.o.facts;have f1:=HR1.o.frozen 1;obtain⟨x0,x1,x2,x3,x4,x5,x6,x7,ay⟩:=HT1.o.cells;obtain⟨g0,g1,g2,g3,g4,g5,g6,g7,g8⟩:=HT1.o.bS;go_wp2_with fail
    exact bodyPost_ret (pI (HT1.o.iI ai.zero) _ _ false 2 3 Ik rfl rfl) rfl ⟨grownBy.kU l5.o (aj _) _ _ _ _ _ _ _ _ _,.inr ⟨HN.o,ai.zero,rfl⟩⟩
structure Vars (w:World):Prop where
 err:yA w
 sig:wC w
theorem Vars.grown{w w':World}{b:Nat}(h:Vars w)(hg:w.grownBy w' (some b))(hb:max 8 1<b):Vars w':=⟨h.err.grown hg (by omega),h.sig.grown hg hb⟩
theorem Vars.below{w w':World}(h:Vars w)(hb:Below w.heap.size w w'):Vars w':=⟨h.err.below hb,h.sig.below hb⟩
theorem m_num:∀args (v:World),(callFunc 137 args).run Tryz.prog v = .ok (.enter 137 args) v:=Go.Proofs.enters_of Tryz.func137 (by kernel_rfl) rfl
theorem ada:∀args (v:World),(callFunc 138 args).run Tryz.prog v = .ok (.enter 138 args) v:=Go.Proofs.enters_of Tryz.func138 (by kernel_rfl) rfl
theorem ac':∀args (v:World),(callFunc 139 args).run Tryz.prog v = .ok (.enter 139 args) v:=Go.Proofs.enters_of Tryz.func139 (by kernel_rfl) rfl
theorem ade:∀args (v:World),(callFunc 141 args).run Tryz.prog v = .ok (.enter 141 args) v:=Go.Proofs.enters_of Tryz.func141 (by kernel_rfl) rfl
theorem adb:∀args (v:World),(callFunc 142 args).run Tryz.prog v = .ok (.enter 142 args) v:=Go.Proofs.enters_of Tryz.func142 (by kernel_rfl) rfl
theorem ads (b:Nat)(s:ByteArray)(k:Nat)(_hs:s.size≤1000000)(_hk:k<s.size)(hb2:max 8 1<b)(a:Int)(ha:((s[k].toNat:Nat):Int)=a) :
 (∀args (v:World),(callFunc (qw a) args).run Tryz.prog v = .ok (.enter (qw a) args) v) ∧
 (∀w,bW w b s k→Vars w→Calls Tryz.prog (qw a) #[.pointer (some ⟨b,0,none⟩)] w (o7 (fD (aD s k)) b s k w)):=by
 have hc:=nJ s k _hk;rw[ha]at hc;have ht:=rO a (aD s (k+1));rw[← hc]at ht;rw[ht];cases hn:isNum a
 · rw [ag (by simp)]
   by_cases dG:a=34
   · rw[Tp hn dG,ah dG]
     exact⟨ada,fun w h _=>ae5 b s k w h _hs _hk⟩
   · rw [ag dG]
     by_cases j5:a=35
     · rw[Tm hn dG j5,ah j5]
       exact⟨ac',fun w h _=>Zu b s k w h _hs _hk⟩
     · rw [ag j5]
       cases hb:nZ a
       · rw[Tq hn dG j5 hb,ag (by unfold nZ at hb;simpa using hb)]
         exact⟨adb,fun w h hv=>ahh b s k w h _hs _hk hv.sig hb2⟩
       · rw[Tt hn dG j5 hb,ah (by unfold nZ at hb;simpa using hb)]
         exact⟨ade,fun w h _=>aiK b s k w h _hs _hk (by rw[ha];exact hb)⟩
 · rw[Tn hn,ah rfl]
   exact⟨m_num,fun w h hv=>aed b s k w h _hs _hk (by rw[ha];exact hn) hv.err (by omega)⟩
theorem o7.lit {o:Option (ai × Nat)}{b:Nat}{s:ByteArray}{k:Nat}{w w':World}{e:Ending}(h:o7 o b s k w e w') :
 w.grownBy w' (some b)∧((∃t n,o=some (t,n)∧e = .returned (.tuple #[.agg #[.int .i64 t.kind,.string t.text,.int .i64 t.num,.string t.sh,.int .i64 t.c,.int .i64 t.r,.bool t.ac,.bool t.ar,.int .i64 t.pos],.bool true])∧bW w' b s (k+n))∨(o=none∧∃t:ai,e = .returned (.tuple #[.agg #[.int .i64 t.kind,.string t.text,.int .i64 t.num,.string t.sh,.int .i64 t.c,.int .i64 t.r,.bool t.ac,.bool t.ar,.int .i64 t.pos],.bool false]))):=h
theorem UQ:Tryz.f85.results=#[.cell 2 71,.tmp 3]:=by kernel_rfl
theorem aid (b:Nat)(s:ByteArray)(k:Nat)(w:World)(h:bW w b s k)(_hs:s.size≤1000000)(_hk:k<s.size)(hb2:max 8 1<b)(hv:Vars w) :
 Calls Tryz.prog 85 #[.pointer (some ⟨b,0,none⟩)] w (o7 ((fD (aD s k)).map fun q=>(q.1.goto k,q.2)) b s k w):=by
 have hlt:=h.lt;have hw0:w.heap.size≠b:=by omega
 obtain⟨a,ha⟩:∃a:Int,(s[k].toNat:Int)=a:=⟨_,rfl⟩;have ha1:0≤a∧a≤255:=by have:=s[k].toNat_lt;omega
 obtain⟨hen,vB⟩:=ads b s k _hs _hk hb2 a ha;have hmo:=fun w=>adr a ha1.1 ha1.2 w
 obtain⟨F,hF⟩:∃F,qw a=F:=⟨_,rfl⟩;rw[hF]at hen vB;simp only[hF]at hmo;have Dy:=ae hmo;clear hmo hF;have HM:=ae (vB _ h.tok (hv.grown (Cy w b) hb2));clear vB hv;have bu:=ae (Cy w b);have aR:=ae (aG.zero w);obtain⟨c0,c1⟩:=h.tok.facts;clear h;have hk2:(k:Int)<(s.size:Int):=by omega
 obtain⟨o,ho⟩:∃o,fD (aD s k)=o:=⟨_,rfl⟩;rw[ho]at HM ⊢;clear ho;go_enter Tryz.func85,Tryz.ntmps85;go_wp2_with (go_at_call 114;((with_reducible refine(Dy.o _).mono ?_);rintro e w1 ⟨rfl,rfl⟩))
 refine HM.o.mono ?_;intro e w1 he;obtain⟨h1,⟨t,n,rfl,rfl,h2⟩|⟨rfl,t,rfl⟩⟩:=he.lit
 · have H1:=ae h1;have H2:=ae h2;clear h1 h2 he
   have hB3:Below w1.heap.size w1 (w1.alloc (.cells #[.int .i64 t.kind,.string t.text,.int .i64 t.num,.string t.sh,.int .i64 t.c,.int .i64 t.r,.bool t.ac,.bool t.ar,.int .i64 (k:Int)] 71)):=(ak _ _).alloc (aj _) _;have hT1:=aR.o.grown H1.o hw0;have HT3:=ae (hT1.below hB3 hT1.lt);have aF:aG (w1.alloc (.cells #[.int .i64 t.kind,.string t.text,.int .i64 t.num,.string t.sh,.int .i64 t.c,.int .i64 t.r,.bool t.ac,.bool t.ar,.int .i64 (k:Int)] 71)) w1.heap.size (t.goto k):=aG.new w1 (t.goto k);have fG:=ae (grownBy.below' (grownBy.trans' bu.o H1.o) hB3);have yJ:=ae (H2.o.below hB3 H2.o.lt);have xW:w.heap.size≠w1.heap.size:=Nat.ne_of_lt hT1.lt;clear hB3 hT1 Dy HM c0 c1;go_upto_region 4 with (fail)
   generalize w1.alloc (.cells #[.int .i64 t.kind,.string t.text,.int .i64 t.num,.string t.sh,.int .i64 t.c,.int .i64 t.r,.bool t.ac,.bool t.ar,.int .i64 (k:Int)] 71)=w3 at HT3 aF fG yJ ⊢;obtain⟨x0,x1,x2,x3,x4,x5,x6,x7,ay⟩:=HT3.o.cells;obtain⟨f0,f1,f2,f3,f4,f5,f6,f7,f8⟩:=HT3.o.bS;obtain⟨y0,y1,y2,y3,y4,fQ,y6,mG,oC⟩:=aF.cells;clear aF;simp only[ai.goto]at y0 y1 y2 y3 y4 fQ y6 mG oC;go_wp2_with fail
   exact bodyPost_ret (pI (HT3.o.iI (t.goto k)) _ _ true 2 3 UQ rfl rfl) rfl ⟨grownBy.kU fG.o (aj _) _ _ _ _ _ _ _ _ _,.inl ⟨_,_,rfl,rfl,yJ.o.kU hw0 _ _ _ _ _ _ _ _ _⟩⟩
 · have H1:=ae h1;clear h1 he
   have hB3:Below w1.heap.size w1 (w1.alloc (.cells #[.int .i64 t.kind,.string t.text,.int .i64 t.num,.string t.sh,.int .i64 t.c,.int .i64 t.r,.bool t.ac,.bool t.ar,.int .i64 (k:Int)] 71)):=(ak _ _).alloc (aj _) _;have hT1:=aR.o.grown H1.o hw0;have HT3:=ae (hT1.below hB3 hT1.lt);have aF:aG (w1.alloc (.cells #[.int .i64 t.kind,.string t.text,.int .i64 t.num,.string t.sh,.int .i64 t.c,.int .i64 t.r,.bool t.ac,.bool t.ar,.int .i64 (k:Int)] 71)) w1.heap.size (t.goto k):=aG.new w1 (t.goto k);have fG:=ae (grownBy.below' (grownBy.trans' bu.o H1.o) hB3);have xW:w.heap.size≠w1.heap.size:=Nat.ne_of_lt hT1.lt;clear hB3 hT1 Dy HM c0 c1;go_upto_region 4 with (fail)
   generalize w1.alloc (.cells #[.int .i64 t.kind,.string t.text,.int .i64 t.num,.string t.sh,.int .i64 t.c,.int .i64 t.r,.bool t.ac,.bool t.ar,.int .i64 (k:Int)] 71)=w3 at HT3 aF fG ⊢;obtain⟨x0,x1,x2,x3,x4,x5,x6,x7,ay⟩:=HT3.o.cells;obtain⟨f0,f1,f2,f3,f4,f5,f6,f7,f8⟩:=HT3.o.bS;obtain⟨y0,y1,y2,y3,y4,fQ,y6,mG,oC⟩:=aF.cells;clear aF;simp only[ai.goto]at y0 y1 y2 y3 y4 fQ y6 mG oC;go_wp2_with fail
   exact bodyPost_ret (pI (HT3.o.iI (t.goto k)) _ _ false 2 3 UQ rfl rfl) rfl ⟨grownBy.kU fG.o (aj _) _ _ _ _ _ _ _ _ _,.inr ⟨rfl,t.goto k,rfl⟩⟩
def Ao:Enc ai 9:={ f:=fun t=>(pO t).toList,len:=fun _=>rfl,one:=fun t u hu=>ah' t u hu }
theorem Elem.tok:∃n,n≤100∧Elem Tryz.prog 63 71 9 n:=⟨80,by omega,Tryz.underlying63,⟨.agg ku,by kernel_rfl,rfl⟩,by decide⟩
abbrev sF(w:World)(base:Nat)(v:Value)(ts:List ai):Prop:=Own Ao 71 w base v ts
def lV(s:ByteArray)(p:Nat):Option (List ai):=fq (aD s p).length p (aD s p)
theorem SG(s:ByteArray):gJ (sb s)=lV s 0:=rfl
theorem SK (s:ByteArray)(p:Nat)(h:s.size≤p):lV s p=some [ai.zero.goto p]:=by
 unfold lV;rw[EO s p h];unfold fq;rfl
theorem SI (s:ByteArray)(p:Nat)(h:p<s.size)(ha:((s[p].toNat:Nat):Int)=32):lV s p=lV s (p+1):=by
 unfold lV;rw[nJ s p h,ha,aX,sK,ah rfl]
theorem LW (s:ByteArray):∀(m p:Nat),(∀x∈(aD s p).take m,oK x=true)→p+m≤s.size→lV s p=lV s (p+m)
 | 0,_,_,_=>rfl
 | m + 1,p,h,hm=>by
   have hp:p<s.size:=by omega
   rw[nJ s p hp]at h
   have h0:((s[p].toNat:Nat):Int)=32:=by
    have:=h ((s[p].toNat:Nat):Int) (by simp);unfold oK at this;simpa using this
   rw[SI s p hp h0,LW s m (p+1) (fun x hx=>h x (by simp[hx])) (by omega),show p+1+m=p+(m+1)from by omega]
theorem SL (s:ByteArray)(p:Nat)(h:p<s.size)(h32:¬ ((s[p].toNat:Nat):Int)=32)(ht:fD (aD s p)=none):lV s p=none:=by
 unfold lV;rw[nJ s p h]at ht ⊢;rw[aX,sK,ag h32,ht]
theorem SN (s:ByteArray)(p:Nat)(h:p<s.size)(h32:¬ ((s[p].toNat:Nat):Int)=32)(t:ai)(n:Nat)(ht:fD (aD s p)=some (t,n)):lV s p=(lV s (p+n)).map (t.goto p :: ·):=by
 have hn:=rP _ _ _ ht;have hd:=UR s p n;unfold lV;rw[nJ s p h]at ht hd hn ⊢;rw[aX,sK,ag h32,ht];simp only;rw[hd,GZ _ (aD s (p+n)).length _ _ (by rw[og,og];omega) (aj _)]
theorem VA (p:Int→Bool)(l:List Int):∀x∈l.take (l.takeWhile p).length,p x=true:=by
 have e:=take_split p l
 have h:l.take (l.takeWhile p).length=l.takeWhile p:=by
  have h0:(l.takeWhile p++l.drop (l.takeWhile p).length).take (l.takeWhile p).length=l.takeWhile p:=List.take_left;rw[e]at h0;exact h0
 rw[h];exact uC p l
theorem Vt (s:ByteArray)(p q:Nat)(hq:p+((aD s p).takeWhile oK).length=q)(h:q<s.size):¬ ((s[q].toNat:Nat):Int)=32:=by
 have h1:=E5 oK (aD s p);rw[UR,hq,nJ s q h]at h1;have:=h1 _ rfl;unfold oK at this;simpa using this
theorem Vu (s:ByteArray)(p:Nat)(h:p≤s.size):p+((aD s p).takeWhile oK).length≤s.size:=by
 have:=Bv oK (aD s p);rw[og]at this;omega
theorem Vars.lt {w:World}(h:Vars w):max 8 1<w.heap.size:=by
 have hs:=h.sig.lt;obtain⟨ev,h1,_⟩:=h.err
 have hr:8<w.heap.size:=by
  rcases Nat.lt_or_ge 8 w.heap.size with h'|h'
  · exact h'
  · exfalso;unfold World.cell? at h1;simp only at h1;rw[Array.getElem?_eq_none h']at h1;cases h1
 omega
theorem o7.no {b:Nat}{s:ByteArray}{k:Nat}{w w':World}{e:Ending}(h:o7 none b s k w e w'):w.grownBy w' (some b)∧∃t:ai,e = .returned (.tuple #[.agg #[.int .i64 t.kind,.string t.text,.int .i64 t.num,.string t.sh,.int .i64 t.c,.int .i64 t.r,.bool t.ac,.bool t.ar,.int .i64 t.pos],.bool false]):=by
 rcases h.lit with ⟨h1,⟨t,n,h2,_⟩|⟨_,h2⟩⟩
 · cases h2
 · exact⟨h1,h2⟩
theorem o7.yes {b:Nat}{s:ByteArray}{k n:Nat}{t:ai}{w w':World}{e:Ending}(h:o7 (some (t,n)) b s k w e w'):w.grownBy w' (some b)∧e = .returned (.tuple #[.agg #[.int .i64 t.kind,.string t.text,.int .i64 t.num,.string t.sh,.int .i64 t.c,.int .i64 t.r,.bool t.ac,.bool t.ar,.int .i64 t.pos],.bool true])∧bW w' b s (k+n):=by
 rcases h.lit with ⟨h1,⟨t',n',h2,h3,h4⟩|⟨h2,_⟩⟩
 · injection h2 with h2;injection h2 with h2 h5;subst h2;subst h5;exact⟨h1,h3,h4⟩
 · cases h2
def Pe (s:ByteArray)(w:World)(e:Ending)(w':World):Prop :=
 Below w.heap.size w w'∧((300<s.size∧e = .returned (.tuple #[.slice none 0 0,.int .i64 4]))∨(s.size≤300∧gJ (sb s)=none∧e = .returned (.tuple #[.slice none 0 0,.int .i64 5])) ∨
  (s.size≤300∧∃ts v,gJ (sb s)=some ts∧e = .returned (.tuple #[v,.int .i64 0])∧sF w' w.heap.size v ts))
theorem acV (s:ByteArray)(w:World)(h:300<s.size):Calls Tryz.prog 59 #[.string s] w (Pe s w):=by
 have hi:(300:Int)<(s.size:Int):=by omega
 go_enter Tryz.func59,Tryz.ntmps59;go_wp2_with fail
 go_ret2
 exact⟨ak _ _,.inl ⟨h,rfl⟩⟩
theorem LX (s:ByteArray)(w:World)(hv:Vars w):Calls Tryz.prog 59 #[.string s] w (Pe s w):=by
 by_cases qZ:300<s.size
 · exact acV s w qZ
 have hi:¬ (300:Int)<(s.size:Int):=by omega
 have hs0:s.size≤1000000:=by omega
 obtain⟨eb,kz,dh⟩:=Elem.tok;have kv:=ae dh;clear dh;have hb2:=hv.lt;have dF:=ae hv;clear hv;have hsk:=Vs w.heap.size s 0 _ (bW.new w s) hs0 (by omega);rw[Nat.zero_add]at hsk;obtain⟨p0,hp0⟩:∃p0,((aD s 0).takeWhile oK).length=p0:=⟨_,rfl⟩;rw[hp0]at hsk;have lL:=ae hsk;clear hsk;have Rq:=Vu s 0 (eP _);rw[Nat.zero_add,hp0]at Rq
 have Dw:=ae (show gJ (sb s)=(lV s p0).map (([]:List ai) ++ ·)by
  have:=LW s p0 0 (by rw[← hp0];exact VA _ _) (by omega);rw[SG,this,Nat.zero_add];cases lV s p0 <;> rfl)
 have HH0:=ae (fun h=>Vt s 0 p0 (by rw[hp0];omega) h);clear hp0;go_enter Tryz.func59,Tryz.ntmps59;go_wp2_with (go_at_call 84;((with_reducible refine lL.o.mono ?_);rintro e w1 ⟨h1,rfl,h2⟩;have HB:=ae (uZ ((ak _ _).alloc (aj _) _) h1 (by simp) (aj _));have HR:=ae h2;clear h1 h2))
 go_loopw [5] (fun v wr=>∃(p:Nat)(acc:List ai),p≤s.size∧acc.length≤p∧Hid (gJ (sb s)=(lV s p).map (acc ++ ·))∧Hid (∀h:p<s.size,¬ ((s[p].toNat:Nat):Int)=32)∧Hid (bW wr w.heap.size s p)∧Hid (sF wr (w.heap.size+1) v acc)∧Hid (Below w.heap.size w wr))
  (fun _ wr=>nI w.heap.size s.size wr)
 case atStart=>exact⟨p0,[],Rq,by simp,Dw,HH0,HR,ae (Own.nil _ _ _ _),HB⟩
 case round =>
  clear Dw HH0 lL HR HB;obtain⟨p,acc,hps,hal,HL,HH,HR,HO,HB⟩:=hrel;obtain⟨c0,c1⟩:=HR.o.facts;have yK:=ae (HR.o.nI s.size);by_cases hlt:p<s.size
  · have lu:(p:Int)<(s.size:Int):=by omega
    have hT:=aid w.heap.size s p wr HR.o hs0 hlt hb2 (dF.o.below HB.o);cases hq:fD (aD s p)with
    | none =>
      rw[hq]at hT;have HT:=ae hT;clear hT;have HN:=ae (show gJ (sb s)=none by rw[HL.o,SL s p hlt (HH.o hlt) hq];rfl);clear hq;go_wp2_with (go_at_call 85;((with_reducible refine HT.o.mono ?_);intro e w1 he;obtain⟨h1,t,rfl⟩:=o7.no he;have HB1:=ae (uZ HB.o h1 HB.o.size (aj _));clear h1 he))
      go_ret2
      exact⟨HB1.o.alloc HB1.o.size _,.inr (.inl ⟨by omega,HN.o,rfl⟩)⟩
    | some q =>
      obtain⟨t0,n0⟩:=q;rw[hq]at hT;obtain⟨t1,ht1⟩:∃t1,t0.goto p=t1:=⟨_,rfl⟩;have hT:Calls Tryz.prog 85 #[.pointer (some ⟨w.heap.size,0,none⟩)] wr (o7 (some (t1,n0)) w.heap.size s p wr):=by rw[← ht1];exact hT
      have HT:=ae hT;clear hT;have hn0:=rP _ _ _ hq;rw[og]at hn0
      have yI:=ae (show gJ (sb s)=(lV s (p+n0)).map ((acc++[t1]) ++ ·)by
       rw[← ht1,HL.o,SN s p hlt (HH.o hlt) t0 n0 hq,Option.map_map];congr 1;funext l;simp)
      clear hq HL HH ht1;have AL:p+n0≤s.size:=by omega
      go_upto_region 11 with (go_at_call 85;((with_reducible refine HT.o.mono ?_);intro e w1 he;obtain⟨h1,rfl,h2⟩:=o7.yes he;have HB1:=ae (uZ HB.o h1 HB.o.size (aj _));have fZ:=ae (Own.other HO.o h1 (Nat.lt_succ_self _));have HR1:=ae h2;clear h1 h2 he))
      have hB3:Below w1.heap.size w1 (w1.alloc (.cells #[.int .i64 t1.kind,.string t1.text,.int .i64 t1.num,.string t1.sh,.int .i64 t1.c,.int .i64 t1.r,.bool t1.ac,.bool t1.ar,.int .i64 t1.pos] 71)):=(ak _ _).alloc (aj _) _;have aF:aG (w1.alloc (.cells #[.int .i64 t1.kind,.string t1.text,.int .i64 t1.num,.string t1.sh,.int .i64 t1.c,.int .i64 t1.r,.bool t1.ac,.bool t1.ar,.int .i64 t1.pos] 71)) w1.heap.size t1:=aG.new w1 t1;have HR3:=ae (HR1.o.below hB3 HR1.o.lt);have gQ:=ae (fZ.o.alloc (.cells #[.int .i64 t1.kind,.string t1.text,.int .i64 t1.num,.string t1.sh,.int .i64 t1.c,.int .i64 t1.r,.bool t1.ac,.bool t1.ar,.int .i64 t1.pos] 71));have HB3:=ae (HB1.o.trans (hB3.mono HB1.o.size));clear hB3 HT HB1 fZ HR1 HB HO HR c0 c1;generalize w1.alloc (.cells #[.int .i64 t1.kind,.string t1.text,.int .i64 t1.num,.string t1.sh,.int .i64 t1.c,.int .i64 t1.r,.bool t1.ac,.bool t1.ar,.int .i64 t1.pos] 71)=w3 at HR3 aF gQ HB3 ⊢;obtain⟨y0,y1,y2,y3,y4,fQ,y6,mG,oC⟩:=aF.cells;clear aF;go_upto_region 7 with (at_builtin;refine ow kv.o Ao rfl (.tmp 32) (.tmp 34) rfl (w.heap.size+1) _ _ rfl (gQ.o.alloc _) ⟨_,0,none⟩ 1 1 [t1] rfl rfl ?_ ?_ ?_ ?_ ?_;exact ic _ _ _ rfl;exact bO (Nat.mul_le_mul_left _ kz) (by omega);(unfold maxLen;omega);(have:=HR3.o.lt;simp <;> omega);intro v' oz h1 h2;have p8:=ae h1;have kZ:=ae (((ak (w.heap.size+1) _).alloc (by have:=HR3.o.lt;omega) _).trans h2);clear h1 h2)
      have HR4:=ae (HR3.o.below kZ.o (Nat.lt_succ_self _));have dC:=ae (HB3.o.trans (kZ.o.mono (Nat.le_succ _)));have Lm:=Vs w.heap.size s (p+n0) oz HR4.o hs0 AL;obtain⟨q,hq⟩:∃q,p+n0+((aD s (p+n0)).takeWhile oK).length=q:=⟨_,rfl⟩;rw[hq]at Lm;have XD:=ae Lm;clear Lm;have Li:=Vu s (p+n0) AL;rw[hq]at Li
      have W9:=ae (show gJ (sb s)=(lV s q).map ((acc++[t1]) ++ ·)by
       rw[yI.o, ← hq];have:=LW s _ (p+n0) (VA oK _) (by rw[hq];exact Li);rw[this])
      have zY:=ae (fun h=>Vt s (p+n0) q hq h);have hpq:p<q:=by omega
      clear hq yI;go_wp2_with (go_at_call 84;((with_reducible refine XD.o.mono ?_);rintro e w5 ⟨h1,rfl,h2⟩;have eD:=ae (uZ dC.o h1 dC.o.size (aj _));have wm:=ae (Own.other p8.o h1 (Nat.lt_succ_self _));have uK:=ae h2;clear h1 h2))
      go_roundw
      case rel=>exact⟨q,acc++[t1],Li,by simp;omega,W9,zY,uK,wm,eD⟩
      case measure =>
       have h1:=uK.o.nI s.size;rw[yK.o,h1];omega
  · have lu:¬ (p:Int)<(s.size:Int):=by omega
    have HN:=ae (show gJ (sb s)=some (acc++[ai.zero.goto p])by rw[HL.o,SK s p (by omega)];rfl);clear HL HH;go_wp2_with (at_builtin;refine ow kv.o Ao rfl (.tmp 36) (.tmp 42) rfl (w.heap.size+1) _ _ rfl (HO.o.alloc _) ⟨_,0,none⟩ 1 1 [ai.zero.goto p] rfl rfl ?_ ?_ ?_ ?_ ?_;exact ic _ _ _ rfl;exact bO (Nat.mul_le_mul_left _ kz) (by omega);(unfold maxLen;omega);(have:=HR.o.lt;simp <;> omega);intro v' oz h1 h2;have p8:=ae h1;have kZ:=ae (((ak (w.heap.size+1) _).alloc (by have:=HR.o.lt;omega) _).trans h2);clear h1 h2)
    go_ret2
    exact⟨HB.o.trans (kZ.o.mono (by have:=HR.o.lt;omega)),.inr (.inr ⟨by omega,_,_,HN.o,rfl,p8.o.mono (by omega)⟩)⟩
theorem sF.cell {w:World}{base g n cap:Nat}{ts:List ai}(h:sF w base (.slice (some ⟨g,0,none⟩) n cap) ts)(i:Nat)(t:ai)(hi:ts[i]? = some t)(j:Nat)(hj:j<9):w.cell? ⟨g,i*9+j,none⟩=(pO t).toList[j]? := by
 have hl:(pO t).toList.length=9:=rfl;have hu:(Ao.f t)[j]? = some ((pO t).toList[j]'(by omega)):=dL _;have:=Own.cells h (i*9+j) _ (by rw[Ao.at ts i j t hi hj];exact hu);rw[this];exact hu.symm
theorem SQ (s:ByteArray)(w:World)(hv:Vars w)(hs:s.size≤300)(ts:List ai)(hl:gJ (sb s)=some ts)(hne:0<ts.length) :
 Calls Tryz.prog 59 #[.string s] w fun e w'=>Below w.heap.size w w'∧∃g cap,e = .returned (.tuple #[.slice (some ⟨g,0,none⟩) ts.length cap,.int .i64 0])∧w.heap.size≤g∧g<w'.heap.size∧sF w' w.heap.size (.slice (some ⟨g,0,none⟩) ts.length cap) ts:=by
 refine(LX s w hv).mono ?_;rintro e w' ⟨hb,h|⟨_,h,_⟩|⟨_,ts',v,h1,rfl,h2⟩⟩
 · omega
 · rw[hl]at h;cases h
 · rw[hl]at h1;injection h1 with h1;subst h1
   obtain⟨g,cap,rfl,h3,h4,_,_⟩:=Own.some h2 hne;exact⟨hb,g,cap,rfl,h3,h4,h2⟩
theorem SS (s:ByteArray)(w:World)(hv:Vars w)(hs:s.size≤300)(hl:gJ (sb s)=none) :
 Calls Tryz.prog 59 #[.string s] w fun e w'=>Below w.heap.size w w'∧e = .returned (.tuple #[.slice none 0 0,.int .i64 5]):=by
 refine(LX s w hv).mono ?_;rintro e w' ⟨hb,h|⟨_,_,rfl⟩|⟨_,ts',v,h1,_⟩⟩
 · omega
 · exact⟨hb,rfl⟩
 · rw[hl]at h1;cases h1
structure aC where
 n:Nd
 g:Option (Nat × Nat)
def aC.bn (v:aC):Value:=match v.g with
 | none => .slice none 0 0
 | some (g,c) => .slice (some ⟨g,0,none⟩) v.n.kids.length c
def bU(n:Nd)(k:Value):Array Value:=#[.int .i64 n.kind,.int .i64 n.num,.string n.text,.string n.ref.sh,.int .i64 n.ref.c,.int .i64 n.ref.r,.bool n.ref.ac,.bool n.ref.ar,.string n.af.sh,.int .i64 n.af.c,.int .i64 n.af.r,.bool n.af.ac,.bool n.af.ar,k]
theorem aC.one (v:aC):v.bn.oneCell'=true:=by
 unfold aC.bn;split <;> rfl
theorem Hq (n:Nd)(k:Value)(hk:k.oneCell'=true):∀u∈(bU n k).toList,u.oneCell'=true:=by
 intro v hv;simp only[bU,eY,List.not_mem_nil,or_false]at hv;rcases hv with rfl|rfl|rfl|rfl|rfl|rfl|rfl|rfl|rfl|rfl|rfl|rfl|rfl|rfl
 all_goals first|rfl|exact hk
def ql:Enc aC 14:={ f:=fun v=>(bU v.n v.bn).toList,len:=fun _=>rfl,one:=fun v u hu=>Hq _ _ v.one u hu }
def ky(w:World)(lo:Nat)(nv:Value)(vs:List aC):Prop:=Own ql 45 w lo nv vs∧∀v∈vs,Own (aI .i64) 3 w lo v.bn v.n.kids
theorem ky.keep {w w':World}{lo:Nat}{nv:Value}{vs:List aC}(h:ky w lo nv vs)(hk:∀g,lo≤g→g<w.heap.size→w'.heap[g]? = w.heap[g]?):ky w' lo nv vs :=
 ⟨h.1.keep fun g a b _=>hk g a b,fun v hv=>(h.2 v hv).keep fun g a b _=>hk g a b⟩
theorem ky.nil(w:World)(lo:Nat):ky w lo (.slice none 0 0) []:=⟨Own.nil _ _ _ _,fun v hv=>absurd hv (by simp)⟩
def BV(w:World)(k:Nat):Prop:=∃cur fr,w.heap[k]? = some (.cells cur 45 fr)
structure Fr (w w':World)(b:Nat):Prop where
 os:w'.os=w.os
 tape:w'.tape=w.tape
 output:w'.output=w.output
 size:w.heap.size≤w'.heap.size
 block:∀k,k<w.heap.size→k≠b→(k<b∨¬ BV w k)→w'.heap[k]? = w.heap[k]?
theorem Fr.refl(w:World)(b:Nat):Fr w w b:=⟨rfl,rfl,rfl,aj _,fun _ _ _ _=>rfl⟩
theorem Fr.trans {w w1 w2:World}{b:Nat}(h:Fr w w1 b)(k:Fr w1 w2 b):Fr w w2 b :=
 ⟨k.os.trans h.os,k.tape.trans h.tape,k.output.trans h.output,bO h.size k.size,fun j hj hb hr=>by
  have h1:=h.block j hj hb hr;rw[k.block j (eZ hj h.size) hb (hr.imp id fun hn ⟨cur,fr,e⟩=>hn ⟨cur,fr,by rw[← h1];exact e⟩)];exact h1⟩
theorem Fr.below {w w1 w2:World}{b:Nat}(h:Fr w w1 b)(k:Below w1.heap.size w1 w2):Fr w w2 b :=
 ⟨k.os.trans h.os,k.tape.trans h.tape,k.output.trans h.output,bO h.size k.size,fun j hj hb hr=>by
  rw[k.block j (eZ hj h.size)];exact h.block j hj hb hr⟩
theorem Fr.of{w w1:World}(b:Nat)(k:Below w.heap.size w w1):Fr w w1 b:=(Fr.refl w b).below k
theorem Fr.setCell {w w1:World}{b:Nat}(h:Fr w w1 b)(o:Nat)(v:Value):Fr w (w1.setCell ⟨b,o,none⟩ v) b :=
 ⟨h.os,h.tape,h.output,by simpa using h.size,fun j hj hb hr=>by
  rw[fw _ _ _ _ (by intro e;exact hb e)];exact h.block j hj hb hr⟩
theorem Fr.drew{w w1:World}{b:Nat}(h:Fr w w1 b):Fr w w1.drew b:=⟨h.os,h.tape,h.output,h.size,h.block⟩
theorem Fr.row {w w1 w2:World}{b:Nat}{r:Option Nat}(h:Fr w w1 b)(k:w1.grownBy w2 r)(hr:∀g,r=some g→b<g∧(w.heap.size≤g∨BV w1 g)):Fr w w2 b :=
 ⟨k.os.trans h.os,k.tape.trans h.tape,k.output.trans h.output,bO h.size k.size,fun j hj hb hc=>by
  have h1:=h.block j hj hb hc
  rw [k.block j (eZ hj h.size) (by
   intro e;obtain⟨h2,h3⟩:=hr j e.symm;rcases h3 with h3|⟨cur,fr,h3⟩
   · omega
   · rcases hc with hc|hc
     · omega
     · exact hc ⟨cur,fr,by rw[← h1];exact h3⟩)]
  exact h1⟩
theorem Fr.toBelow {w w':World}{B b:Nat}(h:Fr w w' b)(hb:B≤b)(hB:B≤w.heap.size):Below B w w' :=
 ⟨h.os,h.tape,h.output,h.size,fun j hj=>h.block j (by omega) (by omega) (.inl (by omega))⟩
theorem Own.fr {α : Type}{size:Nat}{E:Enc α size}{e:TypeId}{w w':World}{base b:Nat}{v:Value}{xs:List α}(h:Own E e w base v xs)(hf:Fr w w' b)(hb:b<base)(he:e≠45):Own E e w' base v xs:=by
 refine⟨h.1, ?_⟩;rcases h.2 with h|⟨g,cap,cur,h1,h2,h3,h4⟩
 · exact .inl h
 · refine .inr ⟨g,cap,cur,h1,h2, ?_,h4⟩
   rw [hf.block g (dn.1 h3).1 (by omega) (.inr (by
    rintro⟨c,fr,e2⟩;rw[h3]at e2;injection e2 with e2;injection e2 with _ e2;exact he e2))];exact h3
def Ah(w:World)(b:Nat)(tv:Value)(ts:List ai):Prop:=∃g cap,tv = .slice (some ⟨g,0,none⟩) ts.length cap∧g<b∧sF w 0 tv ts
def rE:List (ByteArray × Nat × Int):=[(⟨#[61]⟩,0,9),(⟨#[60,62]⟩,0,10),(⟨#[60]⟩,0,11),(⟨#[60,61]⟩,0,12),(⟨#[62]⟩,0,13),(⟨#[62,61]⟩,0,14),(⟨#[38]⟩,1,15),(⟨#[43]⟩,2,16),(⟨#[45]⟩,2,17),(⟨#[42]⟩,3,18),(⟨#[47]⟩,3,19)]
def Bj:Array Value:=(rE.flatMap fun p=>[.string p.1,.int .i64 (p.2.1:Int),.int .i64 p.2.2]).toArray
def oH(w:World):Prop:=∃ty fr,w.heap[(2:Nat)]? = some (.cells Bj ty fr)
theorem oH.lt{w:World}(h:oH w):2<w.heap.size:=by obtain⟨_,_,h⟩:=h;exact(dn.1 h).1
theorem oH.keep{w w':World}(h:oH w)(hk:w'.heap[(2:Nat)]? = w.heap[(2:Nat)]?):oH w':=by obtain⟨ty,fr,h⟩:=h;exact⟨ty,fr,by rw[hk];exact h⟩
theorem oH.below{w w':World}(h:oH w)(hb:Below w.heap.size w w'):oH w':=h.keep (hb.block _ h.lt)
structure bY (w:World)(b:Nat)(tv:Value)(ts:List ai)(p deep:Nat)(nv:Value)(vs:List aC):Prop where
 cell:w.heap[b]? = some (.cells #[tv,.int .i64 (p:Int),.int .i64 (deep:Int),nv] 113)
 qG:Ah w b tv ts
 nodes:ky w (b+1) nv vs
 ops:oH w
 lt:p<ts.length
 low:max 8 2<b
 fit:Fit ts
 few:ts.length≤1000
 cnt:vs.length≤p
 nest:deep≤12
section
variable {w:World} {b:Nat} {tv:Value} {ts:List ai} {p deep:Nat} {nv:Value} {vs:List aC}
theorem bY.blt(h:bY w b tv ts p deep nv vs):b<w.heap.size:=(dn.1 h.cell).1
theorem bY.below {w':World}(h:bY w b tv ts p deep nv vs)(hb:Below w.heap.size w w'):bY w' b tv ts p deep nv vs:=by
 have hl:=h.blt;refine⟨by rw[hb.block b hl];exact h.cell, ?_,h.nodes.keep fun g _ hg=>hb.block g hg,h.ops.below hb,h.lt,h.low,h.fit,h.few,h.cnt,h.nest⟩;obtain⟨g,cap,h1,h2,h3⟩:=h.qG;exact⟨g,cap,h1,h2,h3.keep fun g _ hg _=>hb.block g hg⟩
theorem bY.facts (h:bY w b tv ts p deep nv vs):w.cell? ⟨b,0,none⟩=some tv∧w.cell? ⟨b,1,none⟩=some (.int .i64 (p:Int))∧w.cell? ⟨b,2,none⟩=some (.int .i64 (deep:Int))∧w.cell? ⟨b,3,none⟩=some nv :=
 ⟨by rw[cell_of_row w b 0 _ _ _ h.cell];rfl,by rw[cell_of_row w b 1 _ _ _ h.cell];rfl,by rw[cell_of_row w b 2 _ _ _ h.cell];rfl,by rw[cell_of_row w b 3 _ _ _ h.cell];rfl⟩
theorem bY.frozen(h:bY w b tv ts p deep nv vs)(j:Nat):w.frozen? ⟨b,j,none⟩=false:=frozen_of_row w b j _ _ h.cell
theorem Ah.set (h:Ah w b tv ts)(o:Nat)(v:Value):Ah (w.setCell ⟨b,o,none⟩ v) b tv ts:=by
 obtain⟨g,cap,h1,h2,h3⟩:=h;refine⟨g,cap,h1,h2,h3.keep fun j _ _ hj=>fw _ _ _ _ ?_⟩;rw[h1]at hj;injection hj with hj;show j≠b;have:g=j:=hj;omega
theorem ky.set {c:Nat}(h:ky w (b+1) nv vs)(hc:c<b+1)(o:Nat)(v:Value):ky (w.setCell ⟨c,o,none⟩ v) (b+1) nv vs :=
 h.keep fun j hj _=>fw _ _ _ _ (by show j≠c;omega)
theorem oH.set(h:oH w)(hb:max 8 2<b)(o:Nat)(v:Value):oH (w.setCell ⟨b,o,none⟩ v):=h.keep (fw _ _ _ _ (by show 2≠b;omega))
theorem bY.Ng (h:bY w b tv ts p deep nv vs)(m:Nat)(hm:m<ts.length)(hp:p≤m):bY (w.setCell ⟨b,1,none⟩ (.int .i64 (m:Int))) b tv ts m deep nv vs :=
 ⟨by rw[heap_setCell_same w b 1 _ _ _ h.cell];rfl,h.qG.set _ _,h.nodes.set (by omega) _ _,h.ops.set h.low _ _,hm,h.low,h.fit,h.few,by have:=h.cnt;omega,h.nest⟩
theorem bY.next(h:bY w b tv ts p deep nv vs)(hm:p+1<ts.length):bY (w.setCell ⟨b,1,none⟩ (.int .i64 ((p:Int)+1))) b tv ts (p+1) deep nv vs:=h.Ng (p+1) hm (by omega)
theorem bY.qD (h:bY w b tv ts p deep nv vs)(m:Nat)(hm:m≤12):bY (w.setCell ⟨b,2,none⟩ (.int .i64 (m:Int))) b tv ts p m nv vs :=
 ⟨by rw[heap_setCell_same w b 2 _ _ _ h.cell];rfl,h.qG.set _ _,h.nodes.set (by omega) _ _,h.ops.set h.low _ _,h.lt,h.low,h.fit,h.few,h.cnt,hm⟩
theorem bY.drew(h:bY w b tv ts p deep nv vs):bY w.drew b tv ts p deep nv vs:=⟨h.cell,h.qG,h.nodes,h.ops,h.lt,h.low,h.fit,h.few,h.cnt,h.nest⟩
theorem bY.tok (h:bY w b tv ts p deep nv vs):∃g cap t,tv = .slice (some ⟨g,0,none⟩) ts.length cap∧ts[p]? = some t∧ts.drop p=t :: ts.drop (p+1)∧g<w.heap.size∧w.cell? ⟨g,p*9,none⟩=some (.int .i64 t.kind)∧w.cell? ⟨g,p*9+1,none⟩=some (.string t.text)∧w.cell? ⟨g,p*9+2,none⟩=some (.int .i64 t.num)∧w.cell? ⟨g,p*9+3,none⟩=some (.string t.sh)∧w.cell? ⟨g,p*9+4,none⟩=some (.int .i64 t.c)∧w.cell? ⟨g,p*9+5,none⟩=some (.int .i64 t.r)∧w.cell? ⟨g,p*9+6,none⟩=some (.bool t.ac)∧w.cell? ⟨g,p*9+7,none⟩=some (.bool t.ar)∧w.cell? ⟨g,p*9+8,none⟩=some (.int .i64 t.pos):=by
 obtain⟨g,cap,h1,h2,h3⟩:=h.qG;have hl:=h.lt;rw[h1]at h3;have hc:=fun j hj=>sF.cell h3 p _ (dL hl) j hj
 exact⟨g,cap,ts[p],h1,dL hl,List.drop_eq_getElem_cons hl,by have:=h.blt;omega,hc 0 (by omega),hc 1 (by omega),hc 2 (by omega),hc 3 (by omega),hc 4 (by omega),hc 5 (by omega),hc 6 (by omega),hc 7 (by omega),hc 8 (by omega)⟩
end
theorem Fit.next {ts:List ai}{p:Nat}{t:ai}(h:Fit ts)(ht:ts[p]? = some t)(hk:t.kind≠0):p+1<ts.length:=by
 obtain⟨body,e,rfl,he,_⟩:=h;have hp:=(dS.1 ht).1;rw[av,fE]at hp ⊢;rcases Nat.lt_or_ge p body.length with h1|h1
 · omega
 · exfalso
   rw[List.getElem?_append_right h1,show p - body.length=0 from by omega]at ht;simp at ht;subst ht;exact hk he
def wQ(b n:Nat)(w:World):Nat:=n - (match w.cell? ⟨b,1,none⟩with|some (.int _ m)=>m.toNat|_=>0)
theorem bY.wQ {w:World}{b:Nat}{tv:Value}{ts:List ai}{p deep:Nat}{nv:Value}{vs:List aC}(h:bY w b tv ts p deep nv vs)(n:Nat):wQ b n w=n - p:=by
 unfold Go.Proofs.YtaobhjliflomaaaGreatDoor.wQ;rw[h.facts.2.1];rfl
theorem afO:Tryz.f61.results=#[.cell 2 71]:=by kernel_rfl
theorem aeu {w:World}{b:Nat}{t:ai}(h:aG w b t)(fn:Func)(tmps:Array Value)(p:Tmp)(hf:fn.results=#[.cell p 71])(hp:tmps.getD p undef = .pointer (some ⟨b,0,none⟩)) :
 (results fn tmps).run Tryz.prog w = .ok (.agg (pO t)) w:=results_cell_row hf tmps w b 71 _ _ _ hp h Tryz.underlying71 rfl VT
theorem H8 {w:World}{b:Nat}{tv:Value}{ts:List ai}{p deep:Nat}{nv:Value}{vs:List aC}(h:bY w b tv ts p deep nv vs)(t:ai)(ht:ts[p]? = some t) :
 Calls Tryz.prog 61 #[.pointer (some ⟨b,0,none⟩)] w fun e w'=>e = .returned (.agg #[.int .i64 t.kind,.string t.text,.int .i64 t.num,.string t.sh,.int .i64 t.c,.int .i64 t.r,.bool t.ac,.bool t.ar,.int .i64 t.pos])∧Below w.heap.size w w':=by
 have hal:Below w.heap.size w (w.alloc (.cells ku 71)):=(ak _ _).alloc (aj _) _;have h1:=h.below hal;obtain⟨c0,c1,c2,c3⟩:=h1.facts;obtain⟨g,cap,t',rfl,ht', -,hg,k0,k1,k2,k3,k4,k5,k6,k7,k8⟩:=h1.tok;rw[ht]at ht';injection ht' with ht';subst ht';have hlt:=h.lt;have hi1:(0:Int)≤(p:Int):=by omega
 have hi2:(p:Int)<(ts.length:Int):=by omega
 obtain⟨n,hn⟩:∃n,ts.length=n:=⟨_,rfl⟩;rw[hn]at hi2 c0;have aR:=aG.zero w;obtain⟨x0,x1,x2,x3,x4,x5,x6,x7,ay⟩:=aR.cells;obtain⟨f0,f1,f2,f3,f4,f5,f6,f7,f8⟩:=aR.bS;have aR:=ae aR;have bu:=ae hal;clear h h1 hal c2 c3 ht hlt hn;go_enter Tryz.func61,Tryz.ntmps61;go_wp2_with fail
 go_region
 go_wp2_with fail
 exact bodyPost_ret (aeu (aG.new w t).drew _ _ 2 afO rfl) rfl ⟨rfl,((ak _ _).alloc (aj _) _).drew⟩
theorem IA{s:ByteArray}{ts:List ai}{p:Nat}{t:ai}(hd:ts.drop p=t :: ts.drop (p+1)):ax s (ts.drop p)=(decide (t.kind=5)&&decide (t.text=s)):=by rw[hd];rfl
theorem A8 {w:World}{b:Nat}{tv:Value}{ts:List ai}{p deep:Nat}{nv:Value}{vs:List aC}(h:bY w b tv ts p deep nv vs)(s:ByteArray) :
 Calls Tryz.prog 116 #[.pointer (some ⟨b,0,none⟩),.string s] w fun e w'=>e = .returned (.bool (ax s (ts.drop p)))∧Below w.heap.size w w':=by
 obtain⟨g,cap,t, -,ht,hd, -⟩:=h.tok;have HT:=ae (H8 h t ht);have HS:=ae (IA (s:=s) hd);clear h ht hd;go_enter Tryz.func116,Tryz.ntmps116;go_upto_region 2 with (go_at_call 61;((with_reducible refine HT.o.mono ?_);rintro e w1 ⟨rfl,h1⟩;have HB:=ae h1;clear h1))
 have hB3:Below w1.heap.size w1 (w1.alloc (.cells #[.int .i64 t.kind,.string t.text,.int .i64 t.num,.string t.sh,.int .i64 t.c,.int .i64 t.r,.bool t.ac,.bool t.ar,.int .i64 t.pos] 71)):=(ak _ _).alloc (aj _) _;have aF:aG (w1.alloc (.cells #[.int .i64 t.kind,.string t.text,.int .i64 t.num,.string t.sh,.int .i64 t.c,.int .i64 t.r,.bool t.ac,.bool t.ar,.int .i64 t.pos] 71)) w1.heap.size t:=aG.new w1 t;have HB3:=ae (HB.o.trans (hB3.mono HB.o.size));clear hB3 HB;generalize w1.alloc (.cells #[.int .i64 t.kind,.string t.text,.int .i64 t.num,.string t.sh,.int .i64 t.c,.int .i64 t.r,.bool t.ac,.bool t.ar,.int .i64 t.pos] 71)=w3 at aF HB3 ⊢;obtain⟨x0,x1,x2,x3,x4,x5,x6,x7,ay⟩:=aF.cells;clear aF;by_cases h5:t.kind=5
 · have e5:(t.kind == 5)=true:=bA.2 h5
   by_cases hs:t.text=s
   · have hs1:t.text.toList=s.toList:=by rw[hs]
     have gy:=ae (show ax s (ts.drop p)=true by rw[HS.o,aQ h5,aQ hs];rfl);clear h5 hs;go_wp2_with fail
     go_ret;exact⟨by rw[gy.o];rfl,HB3.o⟩
   · have gy:=ae (show ax s (ts.drop p)=false by rw[HS.o,aQ h5,aS hs];rfl)
     have HE:=ae (show(t.text.toList == s.toList)=false from aA.2 (rM _ _ hs));clear h5 hs;go_wp2_with fail
     go_ret;exact⟨by rw[gy.o];exact gq HE.o,HB3.o⟩
 · have e5:(t.kind == 5)=false:=aA.2 h5
   have gy:=ae (show ax s (ts.drop p)=false by rw[HS.o,aS h5];rfl);clear h5;go_wp2_with fail
   go_ret;exact⟨by rw[gy.o];rfl,HB3.o⟩
theorem Bt {w:World}{b:Nat}{tv:Value}{ts:List ai}{p deep:Nat}{nv:Value}{vs:List aC}(h:bY w b tv ts p deep nv vs){s:ByteArray}(hs:ax s (ts.drop p)=true):p+1<ts.length:=by
 obtain⟨g,cap,t, -,ht,hd, -⟩:=h.tok;rw[IA hd,dH,aK]at hs;exact h.fit.next ht (by omega)
theorem af1 {w:World}{b:Nat}{tv:Value}{ts:List ai}{p deep:Nat}{nv:Value}{vs:List aC}(h:bY w b tv ts p deep nv vs)(hne:0<vs.length) :
 Calls Tryz.prog 119 #[.pointer (some ⟨b,0,none⟩)] w fun e w'=>e = .returned (.int .i64 ((vs.length:Int) - 1))∧w=w':=by
 obtain⟨c0,c1,c2,c3⟩:=h.facts;obtain⟨g,cap,rfl, -, -, -, -⟩:=Own.some h.nodes.1 hne;have h1:=h.cnt;have h2:=h.few;have h3:=h.lt;have hw1 : -9223372036854775808≤(vs.length:Int) - 1:=by omega
 have hw2:(vs.length:Int) - 1≤9223372036854775807:=by omega
 obtain⟨n,hn⟩:∃n,vs.length=n:=⟨_,rfl⟩;rw[hn]at c3 hw1 hw2 ⊢;clear h c0 c1 c2 h1 h2 h3 hne hn;go_enter Tryz.func119,Tryz.ntmps119;go_wp2_with fail
 go_ret;exact⟨rfl,rfl⟩
theorem MG {w:World}{b:Nat}{tv:Value}{ts:List ai}{p deep:Nat}{nv:Value}{vs:List aC}(h:bY w b tv ts p deep nv vs)(s:ByteArray) :
 Calls Tryz.prog 144 #[.pointer (some ⟨b,0,none⟩),.string s] w fun e w'=>Fr w w' b∧e = .returned (.bool (ax s (ts.drop p)))∧bY w' b tv ts (if ax s (ts.drop p)=true then p+1 else p) deep nv vs:=by
 have HS:=ae (A8 h s);have HP:=ae h;cases hq:ax s (ts.drop p)
 · rw[hq]at HS
   clear h hq;go_enter Tryz.func144,Tryz.ntmps144;go_wp2_with (go_at_call 116;((with_reducible refine HS.o.mono ?_);rintro e w1 ⟨rfl,h1⟩;have HB:=ae h1;clear h1))
   go_ret;exact⟨Fr.of b HB.o,rfl,HP.o.below HB.o⟩
 · have hnx:=Bt h hq
   have h2:=h.few;rw[hq]at HS;clear h hq;go_enter Tryz.func144,Tryz.ntmps144;go_wp2_with (go_at_call 116;((with_reducible refine HS.o.mono ?_);rintro e w1 ⟨rfl,h1⟩;have HB:=ae h1;have bG:=ae (HP.o.below h1);clear h1;obtain⟨c0,c1,c2,c3⟩:=bG.o.facts;have f1:=bG.o.frozen 1))
   go_ret;exact⟨(Fr.of b HB.o).setCell _ _,rfl,bG.o.next hnx⟩
theorem zy {w:World}{b:Nat}{tv:Value}{ts:List ai}{p deep:Nat}{nv:Value}{vs:List aC}(h:bY w b tv ts p deep nv vs)(hnx:p+1<ts.length) :
 Calls Tryz.prog 117 #[.pointer (some ⟨b,0,none⟩)] w fun e w'=>Fr w w' b∧((12≤deep∧e = .returned (.int .i64 6))∨(¬ 12≤deep∧e = .returned (.int .i64 0)∧bY w' b tv ts (p+1) (deep+1) nv vs)):=by
 obtain⟨c0,c1,c2,c3⟩:=h.facts;have f1:=h.frozen 1;have f2:=h.frozen 2;have hn:=h.nest;have hf:=h.few;have HP:=ae h;clear h;by_cases hd:12≤deep
 · have e12:((deep:Int) == 12)=true:=by rw[bA];omega
   go_enter Tryz.func117,Tryz.ntmps117;go_wp2_with fail
   go_ret;exact⟨Fr.refl _ _,.inl ⟨hd,rfl⟩⟩
 · have e12:((deep:Int) == 12)=false:=by rw[aA];omega
   go_enter Tryz.func117,Tryz.ntmps117;go_wp2_with fail
   go_ret;exact⟨((Fr.refl _ _).setCell _ _).setCell _ _,.inr ⟨hd,rfl,(HP.o.qD (deep+1) (by omega)).next hnx⟩⟩
theorem Ug {w:World}{b:Nat}{tv:Value}{ts:List ai}{p deep:Nat}{nv:Value}{vs:List aC}(h:bY w b tv ts p (deep+1) nv vs) :
 Calls Tryz.prog 146 #[.pointer (some ⟨b,0,none⟩)] w fun e w'=>Fr w w' b∧((ax ⟨#[41]⟩ (ts.drop p)=false∧e = .returned (.int .i64 5))∨(ax ⟨#[41]⟩ (ts.drop p)=true∧e = .returned (.int .i64 0)∧bY w' b tv ts (p+1) deep nv vs)):=by
 have HT:=ae (MG h ⟨#[41]⟩);have hn:=h.nest;clear h;cases hq:ax ⟨#[41]⟩ (ts.drop p)
 · rw[hq]at HT
   clear hq;go_enter Tryz.func146,Tryz.ntmps146;go_wp2_with (go_at_call 144;((with_reducible refine HT.o.mono ?_);rintro e w1 ⟨h1,rfl,h2⟩;have HF:=ae h1;clear h1 h2))
   go_ret;exact⟨HF.o,.inl ⟨by trivial,rfl⟩⟩
 · rw [hq]at HT
   clear hq;go_enter Tryz.func146,Tryz.ntmps146;go_wp2_with (go_at_call 144;((with_reducible refine HT.o.mono ?_);rintro e w1 ⟨h1,rfl,h2⟩;rw[ah rfl]at h2;have HF:=ae h1;have bG:=ae h2;obtain⟨c0,c1,c2,c3⟩:=h2.facts;have f2:=h2.frozen 2;rw[show((deep+1:Nat):Int)=(deep:Int)+1 from rfl]at c2;clear h1 h2))
   go_ret;refine⟨HF.o.setCell _ _,.inr ⟨by trivial,rfl, ?_⟩⟩;have:=bG.o.qD deep (by omega)
   first
    | exact this
    | (rw[show(deep:Int)+1 - 1=(deep:Int)from by omega];exact this)
theorem agd {P:Program}{w:World}(t e:TypeId)(n sz:Nat)(cs:Array Value)(k:Nat)(v:Array Value)(d:TypeDesc)(h:P.underlying t=some (.array n e))(he:P.underlying e=some d)(hd:(match d with | .struct _ | .array _ _=>true|_=>false)=true)
 (hsz:(P.info? e).map (·.size)=some sz) (hk:k<n) (hv:cs.extract (k*sz) (k*sz+sz)=v):(Instr.index t (.agg cs) (.int .i64 (k:Int))).run P w = .ok (.agg v) w:=by
 have h1:(0:Int)≤(k:Int)∧(k:Int)<(n:Int):=by omega
 cases hq:P.info? e with
 | none=>simp[hq]at hsz
 | some i =>
   have hs':i.size=sz:=by simp[hq]at hsz;exact hsz
   simp[Instr.index,run_underlying h,asIntOf,h1,sizeOf,typeInfo,hq,hs',part,isAgg,run_underlying he,go_sem];cases d <;> simp_all
theorem aiT {P:Program}{ops:Array Oper}{rest:List Oper}{op:Oper}{a:Act}{w:World}{Q:Exit→Act→World→Prop}(hgd:op.guard=none)(t e:TypeId)(n sz:Nat)(x y:Operand)(ho:op.op = .index t x y)
 (cs:Array Value) (k:Nat) (v:Array Value) (d:TypeDesc) (h:P.underlying t=some (.array n e)) (he:P.underlying e=some d) (hd:(match d with | .struct _ | .array _ _=>true|_=>false)=true)
 (hsz:(P.info? e).map (·.size)=some sz) (hx:a.eval x = .agg cs) (hy:a.eval y = .int .i64 (k:Int)) (hk:k<n) (hv:cs.extract (k*sz) (k*sz+sz)=v)
 (hh:wpList P ops Q rest (a.put op.dst (.agg v)) w):wpList P ops Q (op :: rest) a w :=
 wpList_plain hgd fun _ hK=>by
  unfold Oper.wp execOp;simp only[ho,hx,hy,Sem.run_bind,Sem.run_pure,Result.andThen_ok,agd t e n sz cs k v d h he hd hsz hk hv];exact hK _ _ hh
theorem KL {α : Type}(f : α → Bool):∀(l:List α)(j:Nat)(x : α),l[j]? = some x→f x=true→(∀q y,q<j→l[q]? = some y→f y=false)→l.find? f=some x
 | [],j,x,h,_,_=>by simp at h
 | a :: l,0,x,h,hx,_=>by simp at h;subst h;rw[List.find?_cons,hx]
 | a :: l,j+1,x,h,hx,hn=>by
   rw[List.find?_cons,hn 0 a (by omega) rfl];exact KL f l j x (by simpa using h) hx fun q y hq hy=>hn (q+1) y (by omega) (by simpa using hy)
theorem KM {α : Type}(f : α → Bool):∀(l:List α),(∀(q:Nat) y,l[q]? = some y→f y=false)→l.find? f=none
 | [],_=>rfl
 | a :: l,h=>by rw[List.find?_cons,h 0 a rfl];exact KM f l fun q y hy=>h (q+1) y (by simpa using hy)
def qy(n:Nat)(ts:List ai)(q:ByteArray × Nat × Int):Bool:=decide (q.2.1=n)&&ax q.1 ts
theorem Qv (n:Nat)(ts:List ai):∀L:List (ByteArray × Nat × Int),(((L.filter fun q=>decide (q.2.1=n)).map fun q=>(q.1,q.2.2)).find? fun p=>ax p.1 ts)=(L.find? (qy n ts)).map fun q=>(q.1,q.2.2)
 | []=>rfl
 | a :: L=>by
   have ih:=Qv n ts L;by_cases h:a.2.1=n
   · rw[List.filter_cons,ah (by simpa using h),jM,List.find?_cons,List.find?_cons]
     have e:qy n ts a=ax a.1 ts:=by unfold qy;rw[aQ h,gL]
     rw[e];cases ax a.1 ts
     · exact ih
     · rfl
   · rw[List.filter_cons,ag (by simpa using h),List.find?_cons]
     have e:qy n ts a=false:=by unfold qy;rw[aS h,Bool.false_and]
     rw[e];exact ih
theorem acQ:∀n:Nat,n≤3→gp n=(rE.filter fun q=>decide (q.2.1=n)).map fun q=>(q.1,q.2.2)
 | 0,_=>rfl
 | 1,_=>rfl
 | 2,_=>rfl
 | 3,_=>rfl
 | n+4,h=>by omega
theorem aeh (n:Nat)(ts:List ai)(h:n≤3):fC n ts=match rE.find? (qy n ts)with
 | some q=>q.2.2
 | none=>0:=by
 unfold fC;rw[acQ n h,Qv];cases rE.find? (qy n ts) <;> rfl
theorem aem:∀j:Nat,j<11→∃q:ByteArray × Nat × Int,rE[j]? = some q∧Bj.extract (j*3) (j*3+3)=#[.string q.1,.int .i64 (q.2.1:Int),.int .i64 q.2.2]∧q.2.1≤3
 | 0,_=>⟨_,rfl,rfl,by decide⟩
 | 1,_=>⟨_,rfl,rfl,by decide⟩
 | 2,_=>⟨_,rfl,rfl,by decide⟩
 | 3,_=>⟨_,rfl,rfl,by decide⟩
 | 4,_=>⟨_,rfl,rfl,by decide⟩
 | 5,_=>⟨_,rfl,rfl,by decide⟩
 | 6,_=>⟨_,rfl,rfl,by decide⟩
 | 7,_=>⟨_,rfl,rfl,by decide⟩
 | 8,_=>⟨_,rfl,rfl,by decide⟩
 | 9,_=>⟨_,rfl,rfl,by decide⟩
 | 10,_=>⟨_,rfl,rfl,by decide⟩
 | j+11,h=>by omega
theorem TY:Tryz.prog.underlying 173=some (.array 11 172):=Tryz.underlying173
theorem aet:(Tryz.prog.info? 173).map (·.size)=some Bj.size:=by kernel_rfl
theorem aeo:(Tryz.prog.info? 172).map (·.size)=some 3:=by kernel_rfl
def uS(w:World)(b:Nat)(q:ByteArray × Nat × Int):Prop:=w.heap[b]? = some (.cells #[.string q.1,.int .i64 (q.2.1:Int),.int .i64 q.2.2] 172)
theorem uS.new(w:World)(q:ByteArray × Nat × Int):uS (w.alloc (.cells #[.string q.1,.int .i64 (q.2.1:Int),.int .i64 q.2.2] 172)) w.heap.size q:=(kW w _).1
theorem uS.facts {w:World}{b:Nat}{q:ByteArray × Nat × Int}(h:uS w b q):w.cell? ⟨b,0,none⟩=some (.string q.1)∧w.cell? ⟨b,1,none⟩=some (.int .i64 (q.2.1:Int))∧w.cell? ⟨b,2,none⟩=some (.int .i64 q.2.2) :=
 ⟨by rw[cell_of_row w b 0 _ _ _ h];rfl,by rw[cell_of_row w b 1 _ _ _ h];rfl,by rw[cell_of_row w b 2 _ _ _ h];rfl⟩
theorem uS.lt{w:World}{b:Nat}{q:ByteArray × Nat × Int}(h:uS w b q):b<w.heap.size:=(dn.1 h).1
theorem uS.below{w w':World}{B b:Nat}{q:ByteArray × Nat × Int}(h:uS w b q)(hb:Below B w w')(hB:b<B):uS w' b q:=by unfold uS;rw[hb.block b hB];exact h
theorem aer {w:World}{b:Nat}{tv:Value}{ts:List ai}{p deep:Nat}{nv:Value}{vs:List aC}(h:bY w b tv ts p deep nv vs)(n:Nat)(hn:n≤3) :
 Calls Tryz.prog 143 #[.pointer (some ⟨b,0,none⟩),.int .i64 (n:Int)] w fun e w'=>e = .returned (.tuple #[.int .i64 (fC n (ts.drop p)),.bool (decide (fC n (ts.drop p)≠0))])∧Below w.heap.size w w':=by
 obtain⟨ty,fr,Ew⟩:=h.ops;have HP:=ae h;clear h;have JP:=ae Ew;clear Ew;have HK:=ae (aeh n (ts.drop p) hn);go_enter Tryz.func143,Tryz.ntmps143;go_upto_region 1 with (fail)
 refine wp_region_lit ?_;refine wpList_load_row rfl 173 (.global 2) rfl 2 rfl ty Bj fr _ JP.o TY rfl aet ?_;go_wp2_with fail
 go_loopw [9] (fun i wr=>∃j:Nat,j≤11∧i = .int .i64 j∧Hid (∀q y,q<j→rE[q]? = some y→qy n (ts.drop p) y=false)∧Hid (Below w.heap.size w wr))
  (fun i _=>11 - (intOf i).toNat)
 case atStart=>exact⟨0,by omega,rfl,ae (by intro q _ hq;omega),ae (ak _ _)⟩
 case round =>
  obtain⟨j,hj,rfl,eu,HB⟩:=hrel;by_cases hlt:j<11
  · have hji:(j:Int)<11:=by omega
    obtain⟨q,hq1,hq2,hq3⟩:=aem j hlt;have p9:=ae hq1;have lK:=ae hq2;clear hq1 hq2;go_upto_region 3 with (fail)
    refine wp_region_lit ?_;refine aiT rfl 173 172 11 3 (.tmp 8) (.tmp 9) rfl Bj j _ _ TY Tryz.underlying172 rfl aeo rfl rfl hlt lK.o ?_;go_upto_region 4 with (fail)
    have hB3:Below wr.heap.size wr (wr.alloc (.cells #[.string q.1,.int .i64 (q.2.1:Int),.int .i64 q.2.2] 172)):=(ak _ _).alloc (aj _) _;have HO:=uS.new wr q;have HB3:=ae (HB.o.trans (hB3.mono HB.o.size));clear hB3 HB lK;generalize wr.alloc (.cells #[.string q.1,.int .i64 (q.2.1:Int),.int .i64 q.2.2] 172)=w3 at HO HB3 ⊢;generalize wr.heap.size=b3 at HO ⊢;obtain⟨x0,x1,x2⟩:=HO.facts;have aY:=ae (HP.o.below HB3.o);by_cases hr:q.2.1=n
    · have er:((q.2.1:Int) == (n:Int))=true:=by rw[bA,hr]
      have HS:=ae (A8 aY.o q.1);cases hs:ax q.1 (ts.drop p)
      · have JI:=ae (show qy n (ts.drop p) q=false by unfold qy;rw[hs,Bool.and_false])
        rw[hs]at HS;clear hs hr;go_wp2_with (go_at_call 116;((with_reducible refine HS.o.mono ?_);rintro e w4 ⟨rfl,h1⟩;have dC:=ae (HB3.o.trans (h1.mono HB3.o.size));clear h1))
        go_roundw
        case rel =>
         refine⟨j+1,by omega,by go_num,ae ?_,dC⟩;intro q' y hq' hy;by_cases hqj:q'<j
         · exact eu.o q' y hqj hy
         · rw[show q'=j from by omega,p9.o]at hy;injection hy with hy;subst hy;exact JI.o
        case measure=>simp[intOf];omega
      · have oV:=ae (show fC n (ts.drop p)=q.2.2 by rw[HK.o,KL (qy n (ts.drop p)) rE j q p9.o (by unfold qy;rw[hs,aQ hr];rfl) eu.o])
        have oW:=ae (show q.2.2≠0 from by
         have:∀q∈rE,q.2.2≠0:=by decide
         exact this q (fT p9.o))
        rw[hs]at HS;clear hs hr;have gQ:=ae HO;clear x0 x1 x2;obtain⟨x0,x1,x2⟩:=gQ.o.facts;go_upto_region 5 with (go_at_call 116;((with_reducible refine HS.o.mono ?_);rintro e w4 ⟨rfl,h1⟩;have dC:=ae (HB3.o.trans (h1.mono HB3.o.size));have nQ:=ae (gQ.o.below h1 gQ.o.lt);clear h1))
        clear x0 x1 x2;obtain⟨x0,x1,x2⟩:=nQ.o.facts;go_wp2_with fail
        go_ret2
        exact⟨by rw[oV.o,aQ oW.o];rfl,dC.o⟩
    · have er:((q.2.1:Int) == (n:Int))=false:=by rw[aA];omega
      have JI:=ae (show qy n (ts.drop p) q=false by unfold qy;rw[aS hr,Bool.false_and]);clear hr;go_wp2_with fail
      go_roundw
      case rel =>
       refine⟨j+1,by omega,by go_num,ae ?_,HB3⟩;intro q' y hq' hy;by_cases hqj:q'<j
       · exact eu.o q' y hqj hy
       · rw[show q'=j from by omega,p9.o]at hy;injection hy with hy;subst hy;exact JI.o
      case measure=>simp[intOf];omega
  · have hji:¬ (j:Int)<11:=by omega
    have oV:=ae (show fC n (ts.drop p)=0 by
     rw[HK.o,KM (qy n (ts.drop p)) rE (fun q y hy=>eu.o q y (by have:=(dS.1 hy).1;have:q<11:=this;omega) hy)])
    go_wp2_with fail
    go_ret2
    exact⟨by rw[oV.o];rfl,HB.o⟩
def vI:Nat→FuncId
 | 0=>86
 | 1=>87
 | 2=>88
 | 3=>89
 | 4=>90
 | _=>91
theorem ZF:∀n:Nat,n<6→∀args (v:World),(callFunc (vI n) args).run Tryz.prog v = .ok (.enter (vI n) args) v
 | 0,_=>Go.Proofs.enters_of Tryz.func86 (by kernel_rfl) rfl
 | 1,_=>Go.Proofs.enters_of Tryz.func87 (by kernel_rfl) rfl
 | 2,_=>Go.Proofs.enters_of Tryz.func88 (by kernel_rfl) rfl
 | 3,_=>Go.Proofs.enters_of Tryz.func89 (by kernel_rfl) rfl
 | 4,_=>Go.Proofs.enters_of Tryz.func90 (by kernel_rfl) rfl
 | 5,_=>Go.Proofs.enters_of Tryz.func91 (by kernel_rfl) rfl
 | n+6,h=>by omega
def zo(b:Nat):Array Value:=#[.func (.func 86) #[.pointer (some ⟨b,0,none⟩)] #[],.func (.func 87) #[.pointer (some ⟨b,0,none⟩)] #[],.func (.func 88) #[.pointer (some ⟨b,0,none⟩)] #[],.func (.func 89) #[.pointer (some ⟨b,0,none⟩)] #[],.func (.func 90) #[.pointer (some ⟨b,0,none⟩)] #[],.func (.func 91) #[.pointer (some ⟨b,0,none⟩)] #[]]
theorem ac7 (b:Nat):∀n:Nat,n<6→(zo b)[n]? = some (.func (.func (vI n)) #[.pointer (some ⟨b,0,none⟩)] #[])
 | 0,_=>rfl
 | 1,_=>rfl
 | 2,_=>rfl
 | 3,_=>rfl
 | 4,_=>rfl
 | 5,_=>rfl
 | n+6,h=>by omega
theorem ac9(b:Nat):(Tryz.prog.info? 142).map (·.size)=some (zo b).size:=by kernel_rfl
theorem ac8 (b:Nat):∀v∈(zo b).toList,v.oneCell'=true:=by
 intro v hv;simp only[zo,eY,List.not_mem_nil,or_false]at hv;rcases hv with rfl|rfl|rfl|rfl|rfl|rfl <;> rfl
theorem below_setRow {B:Nat}{a w:World}{g:Nat}(h:Below B a w)(hg:B≤g)(cs:Array Value):Below B a (w.setRow g cs) :=
 ⟨h.os,h.tape,h.output,by simpa using h.size,fun j hj=>by rw[Go.setRow_other w g j cs (by omega)];exact h.block j hj⟩
theorem LP (b n:Nat)(hn:n<6)(w:World)(R:Ending→World→Prop)(hR:∀e w',R e w'→∃c,e = .returned (.int .i64 c))(hc:∀w',Below w.heap.size w w'→Calls Tryz.prog (vI n) #[.pointer (some ⟨b,0,none⟩)] w' R) :
 Calls Tryz.prog 60 #[.pointer (some ⟨b,0,none⟩),.int .i64 (n:Int)] w R:=by
 have HC:=ae hc;clear hc;have HRR:=ae hR;clear hR;have xR:=ZF n hn;have HAT:=ae (ac7 b n hn);have hi1:(0:Int)≤(n:Int):=by omega
 have hi2:(n:Int)<6:=by omega
 obtain⟨F,hF⟩:∃F,vI n=F:=⟨_,rfl⟩;rw[hF]at HC xR HAT;have hh:(w.alloc (.cells #[.nilFunc,.nilFunc,.nilFunc,.nilFunc,.nilFunc,.nilFunc] 142)).heap[w.heap.size]? = some (.cells #[.nilFunc,.nilFunc,.nilFunc,.nilFunc,.nilFunc,.nilFunc] 142):=(kW w _).1;have HB:=ae (below_setRow ((ak w.heap.size w).alloc (aj _) (.cells #[.nilFunc,.nilFunc,.nilFunc,.nilFunc,.nilFunc,.nilFunc] 142)) (aj _) (zo b));have HW:=ae (setRow_heap _ w.heap.size _ (zo b) _ _ hh);have HH:=ae hh;clear hF hh;go_enter Tryz.func60,Tryz.ntmps60;go_upto_region 2 with ((with_reducible refine wpList_store_row (op:=⟨none,.store 142 (.tmp 5) (.tmp 18),_,_,_,_⟩) rfl 142 (.tmp 5) (.tmp 18) rfl w.heap.size 142 _ (zo b) ?_ ?_ HH.o ?_ (ac9 b) (ac8 b) ?_);rfl;rfl;rfl)
 generalize (w.alloc (.cells #[.nilFunc,.nilFunc,.nilFunc,.nilFunc,.nilFunc,.nilFunc] 142)).setRow w.heap.size (zo b)=w1 at HB HW ⊢
 have hce:w1.cell? ⟨w.heap.size,n,none⟩=some (.func (.func F) #[.pointer (some ⟨b,0,none⟩)] #[]):=by
  rw[cell_of_row w1 w.heap.size n _ _ _ HW.o];exact HAT.o
 go_wp2_with fail
 refine(HC.o w1 HB.o).mono ?_;intro e w2 hr;obtain⟨c,rfl⟩:=HRR.o e w2 hr;have HR:=ae hr;clear hr;go_wp2_with fail
 exact HR.o
theorem ZP (b:Nat)(w:World)(R:Ending→World→Prop)(hR:∀e w',R e w'→∃c,e = .returned (.int .i64 c))(hc:Calls Tryz.prog 115 #[.pointer (some ⟨b,0,none⟩),.int .i64 0] w R) :
 Calls Tryz.prog 86 #[.pointer (some ⟨b,0,none⟩)] w R:=by
 have HC:=ae hc;have HRR:=ae hR;clear hc hR;go_enter Tryz.func86,Tryz.ntmps86;go_wp2_with (go_at_call 115;((with_reducible refine HC.o.mono ?_);intro e w2 hr;obtain⟨c,rfl⟩:=HRR.o e w2 hr;have HR:=ae hr;clear hr))
 exact HR.o
theorem Y6 (b:Nat)(w:World)(R:Ending→World→Prop)(hR:∀e w',R e w'→∃c,e = .returned (.int .i64 c))(hc:Calls Tryz.prog 115 #[.pointer (some ⟨b,0,none⟩),.int .i64 1] w R) :
 Calls Tryz.prog 87 #[.pointer (some ⟨b,0,none⟩)] w R:=by
 have HC:=ae hc;have HRR:=ae hR;clear hc hR;go_enter Tryz.func87,Tryz.ntmps87;go_wp2_with (go_at_call 115;((with_reducible refine HC.o.mono ?_);intro e w2 hr;obtain⟨c,rfl⟩:=HRR.o e w2 hr;have HR:=ae hr;clear hr))
 exact HR.o
theorem ahD (b:Nat)(w:World)(R:Ending→World→Prop)(hR:∀e w',R e w'→∃c,e = .returned (.int .i64 c))(hc:Calls Tryz.prog 115 #[.pointer (some ⟨b,0,none⟩),.int .i64 2] w R) :
 Calls Tryz.prog 88 #[.pointer (some ⟨b,0,none⟩)] w R:=by
 have HC:=ae hc;have HRR:=ae hR;clear hc hR;go_enter Tryz.func88,Tryz.ntmps88;go_wp2_with (go_at_call 115;((with_reducible refine HC.o.mono ?_);intro e w2 hr;obtain⟨c,rfl⟩:=HRR.o e w2 hr;have HR:=ae hr;clear hr))
 exact HR.o
theorem ahL (b:Nat)(w:World)(R:Ending→World→Prop)(hR:∀e w',R e w'→∃c,e = .returned (.int .i64 c))(hc:Calls Tryz.prog 115 #[.pointer (some ⟨b,0,none⟩),.int .i64 3] w R) :
 Calls Tryz.prog 89 #[.pointer (some ⟨b,0,none⟩)] w R:=by
 have HC:=ae hc;have HRR:=ae hR;clear hc hR;go_enter Tryz.func89,Tryz.ntmps89;go_wp2_with (go_at_call 115;((with_reducible refine HC.o.mono ?_);intro e w2 hr;obtain⟨c,rfl⟩:=HRR.o e w2 hr;have HR:=ae hr;clear hr))
 exact HR.o
theorem lv0:vI 0=86:=rfl
theorem lv1:vI 1=87:=rfl
theorem lv2:vI 2=88:=rfl
theorem lv3:vI 3=89:=rfl
theorem lv4:vI 4=90:=rfl
theorem lv5:vI 5=91:=rfl
theorem acR (b:Nat)(w:World)(R:Ending→World→Prop)(hR:∀e w',R e w'→∃c,e = .returned (.int .i64 c))(n:Nat)(hn:n≤3)(hc:∀w',Below w.heap.size w w'→Calls Tryz.prog 115 #[.pointer (some ⟨b,0,none⟩),.int .i64 (n:Int)] w' R) :
 Calls Tryz.prog 60 #[.pointer (some ⟨b,0,none⟩),.int .i64 (n:Int)] w R:=by
 refine LP b n (by omega) w R hR fun w' hb => ?_
 have h:=hc w' hb;obtain⟨i,hi⟩:∃i:Int,(n:Int)=i:=⟨_,rfl⟩;rw[hi]at h;rcases(show n=0∨n=1∨n=2∨n=3 by omega)with e|e|e|e
 · rw[e,lv0];rw[show i=0 by omega]at h;exact ZP b w' R hR h
 · rw[e,lv1];rw[show i=1 by omega]at h;exact Y6 b w' R hR h
 · rw[e,lv2];rw[show i=2 by omega]at h;exact ahD b w' R hR h
 · rw[e,lv3];rw[show i=3 by omega]at h;exact ahL b w' R hR h
theorem Elem.iP:∃n,n≤200∧Elem Tryz.prog 25 45 14 n:=⟨136,by omega,Tryz.underlying25,⟨.agg #[.int .i64 0,.int .i64 0,.string ⟨#[]⟩,.string ⟨#[]⟩,.int .i64 0,.int .i64 0,.bool false,.bool false,.string ⟨#[]⟩,.int .i64 0,.int .i64 0,.bool false,.bool false,.slice none 0 0],by kernel_rfl,rfl⟩,by decide⟩
theorem Bf:(Tryz.prog.info? 45).map (·.size)=some 14:=by kernel_rfl
def az(w:World)(b:Nat)(n:Nd)(k:Value):Prop:=w.heap[b]? = some (.cells (bU n k) 45)
theorem az.new(w:World)(n:Nd)(k:Value):az (w.alloc (.cells (bU n k) 45)) w.heap.size n k:=(kW w _).1
theorem az.below{w w':World}{B b:Nat}{n:Nd}{k:Value}(h:az w b n k)(hb:Below B w w')(hB:b<B):az w' b n k:=by unfold az;rw[hb.block b hB];exact h
theorem az.lt{w:World}{b:Nat}{n:Nd}{k:Value}(h:az w b n k):b<w.heap.size:=(dn.1 h).1
theorem az.cells {w:World}{b:Nat}{n:Nd}{k:Value}(h:az w b n k):w.cell? ⟨b,0,none⟩=some (.int .i64 n.kind)∧w.cell? ⟨b,1,none⟩=some (.int .i64 n.num)∧w.cell? ⟨b,2,none⟩=some (.string n.text)∧w.cell? ⟨b,3,none⟩=some (.string n.ref.sh)∧w.cell? ⟨b,4,none⟩=some (.int .i64 n.ref.c)∧w.cell? ⟨b,5,none⟩=some (.int .i64 n.ref.r)∧w.cell? ⟨b,6,none⟩=some (.bool n.ref.ac)∧w.cell? ⟨b,7,none⟩=some (.bool n.ref.ar)∧w.cell? ⟨b,8,none⟩=some (.string n.af.sh)∧w.cell? ⟨b,9,none⟩=some (.int .i64 n.af.c)∧w.cell? ⟨b,10,none⟩=some (.int .i64 n.af.r)∧w.cell? ⟨b,11,none⟩=some (.bool n.af.ac)∧w.cell? ⟨b,12,none⟩=some (.bool n.af.ar)∧w.cell? ⟨b,13,none⟩=some k :=
 ⟨by rw[cell_of_row w b 0 _ _ _ h];rfl,by rw[cell_of_row w b 1 _ _ _ h];rfl,by rw[cell_of_row w b 2 _ _ _ h];rfl,by rw[cell_of_row w b 3 _ _ _ h];rfl,by rw[cell_of_row w b 4 _ _ _ h];rfl,by rw[cell_of_row w b 5 _ _ _ h];rfl,by rw[cell_of_row w b 6 _ _ _ h];rfl,by rw[cell_of_row w b 7 _ _ _ h];rfl,by rw[cell_of_row w b 8 _ _ _ h];rfl,by rw[cell_of_row w b 9 _ _ _ h];rfl,by rw[cell_of_row w b 10 _ _ _ h];rfl,by rw[cell_of_row w b 11 _ _ _ h];rfl,by rw[cell_of_row w b 12 _ _ _ h];rfl,by rw[cell_of_row w b 13 _ _ _ h];rfl⟩
theorem bY.row {w:World}{b:Nat}{tv:Value}{ts:List ai}{p deep:Nat}{nv:Value}{vs:List aC}(h:bY w b tv ts p deep nv vs):∀g,nv.ownBlock=some g→b<g∧BV w g:=by
 intro g e;rcases h.nodes.1.2 with ⟨h1,_⟩|⟨g',cap,cur,h1,h2,h3,_⟩
 · rw[h1]at e;cases e
 · rw[h1]at e;injection e with e
   have e:g'=g:=e;subst e;exact⟨by omega,cur,_,h3⟩
theorem bY.KP {w w':World}{b:Nat}{tv:Value}{ts:List ai}{p deep:Nat}{nv:Value}{vs:List aC}(h:bY w b tv ts p deep nv vs)(hg:w.grownBy w' nv.ownBlock):w'.cell? ⟨b,3,none⟩=some nv∧w'.frozen? ⟨b,3,none⟩=false:=by
 have hbb:w'.heap[b]? = w.heap[b]? := hg.block b h.blt (by intro e;have:=(h.row b e.symm).1;omega);have hc:=hbb.trans h.cell;exact⟨by rw[cell_of_row w' b 3 _ _ _ hc];rfl,frozen_of_row w' b 3 _ _ hc⟩
theorem bY.grow {w w':World}{b:Nat}{tv:Value}{ts:List ai}{p deep:Nat}{nv bq:Value}{vs:List aC}{v:aC}(h:bY w b tv ts p deep nv vs)(hg:w.grownBy w' nv.ownBlock)(ho:Own ql 45 w' (b+1) bq (vs++[v]))
 (hk:Own (aI .i64) 3 w (b+1) v.bn v.n.kids) (hc:vs.length+1≤p):bY (w'.setCell ⟨b,3,none⟩ bq) b tv ts p deep bq (vs++[v])∧Fr w (w'.setCell ⟨b,3,none⟩ bq) b:=by
 have AP:=h.row;have hfr:Fr w w' b:=(Fr.refl w b).row hg (fun g e=>⟨(AP g e).1,.inr (AP g e).2⟩);have hbb:w'.heap[b]? = w.heap[b]? := hg.block b h.blt (by intro e;have:=(AP b e.symm).1;omega);refine⟨⟨?_, ?_,⟨ho.keep fun j hj _ _=>fw _ _ _ _ (by show j≠b;omega), ?_⟩, ?_,h.lt,h.low,h.fit,h.few,by rw[av,fE];exact hc,h.nest⟩,hfr.setCell _ _⟩
 · rw[heap_setCell_same w' b 3 _ _ _ (hbb.trans h.cell)];rfl
 · have h1:Ah w' b tv ts:=by
    obtain⟨g,cap,h1,h2,h3⟩:=h.qG;exact⟨g,cap,h1,h2,h3.keep fun j _ hj e=>hfr.block j hj (by rw[h1]at e;injection e with e;have:g=j:=e;omega) (.inl (by rw[h1]at e;injection e with e;have:g=j:=e;omega))⟩
   exact h1.set _ _
 · intro u hu
   have h1:Own (aI .i64) 3 w (b+1) u.bn u.n.kids:=by
    rcases dK.1 hu with hu|hu
    · exact h.nodes.2 u hu
    · rw[fA.1 hu];exact hk
   exact(h1.fr hfr (by omega) (by decide)).keep fun j hj _ _=>fw _ _ _ _ (by show j≠b;omega)
 · have h1:oH w':=h.ops.keep (hfr.block _ h.ops.lt (by have:=h.low;omega) (.inl (by have:=h.low;omega)))
   exact h1.set h.low _ _
theorem DZ {w:World}{b:Nat}{tv:Value}{ts:List ai}{p deep:Nat}{nv:Value}{vs:List aC}(h:bY w b tv ts p deep nv vs)(v:aC)(hk:Own (aI .i64) 3 w (b+1) v.bn v.n.kids)(hc:vs.length+1≤p)(k:Value)(ma:v.bn=k)(n:Nd)(hn:v.n=n) :
 Calls Tryz.prog 118 #[.pointer (some ⟨b,0,none⟩),.agg #[.int .i64 n.kind,.int .i64 n.num,.string n.text,.string n.ref.sh,.int .i64 n.ref.c,.int .i64 n.ref.r,.bool n.ref.ac,.bool n.ref.ar,.string n.af.sh,.int .i64 n.af.c,.int .i64 n.af.r,.bool n.af.ac,.bool n.af.ar,k]] w fun e w'=>Fr w w' b∧e = .returned (.tuple #[])∧∃bq,bY w' b tv ts p deep bq (vs++[v]):=by
 obtain⟨eb,kz,dh⟩:=Elem.iP;have hal:Below w.heap.size w (w.alloc (.cells #[.int .i64 n.kind,.int .i64 n.num,.string n.text,.string n.ref.sh,.int .i64 n.ref.c,.int .i64 n.ref.r,.bool n.ref.ac,.bool n.ref.ar,.string n.af.sh,.int .i64 n.af.c,.int .i64 n.af.r,.bool n.af.ac,.bool n.af.ar,k] 45)):=(ak _ _).alloc (aj _) _;have bG:=ae (h.below hal);have mH:=ae (hk.alloc (.cells #[.int .i64 n.kind,.int .i64 n.num,.string n.text,.string n.ref.sh,.int .i64 n.ref.c,.int .i64 n.ref.r,.bool n.ref.ac,.bool n.ref.ar,.string n.af.sh,.int .i64 n.af.c,.int .i64 n.af.r,.bool n.af.ac,.bool n.af.ar,k] 45));have hx:az (w.alloc (.cells #[.int .i64 n.kind,.int .i64 n.num,.string n.text,.string n.ref.sh,.int .i64 n.ref.c,.int .i64 n.ref.r,.bool n.ref.ac,.bool n.ref.ar,.string n.af.sh,.int .i64 n.af.c,.int .i64 n.af.r,.bool n.af.ac,.bool n.af.ar,k] 45)) w.heap.size n k:=az.new w n k;have h2:=h.few;have h3:=h.lt;have hbl:=h.blt;have hsz:(w.alloc (.cells #[.int .i64 n.kind,.int .i64 n.num,.string n.text,.string n.ref.sh,.int .i64 n.ref.c,.int .i64 n.ref.r,.bool n.ref.ac,.bool n.ref.ar,.string n.af.sh,.int .i64 n.af.c,.int .i64 n.af.r,.bool n.af.ac,.bool n.af.ar,k] 45)).heap.size=w.heap.size+1:=by simp
 have kv:=ae dh;have bu:=ae hal;clear h hk dh hal;go_enter Tryz.func118,Tryz.ntmps118;go_wp2_with fail
 generalize w.alloc (.cells #[.int .i64 n.kind,.int .i64 n.num,.string n.text,.string n.ref.sh,.int .i64 n.ref.c,.int .i64 n.ref.r,.bool n.ref.ac,.bool n.ref.ar,.string n.af.sh,.int .i64 n.af.c,.int .i64 n.af.r,.bool n.af.ac,.bool n.af.ar,k] 45)=w1 at bG mH bu hx hsz ⊢;obtain⟨x0,x1,x2,x3,x4,x5,x6,x7,ay,aO,aL,aM,aN,aJ⟩:=hx.cells;obtain⟨c0,c1,c2,c3⟩:=bG.o.facts;have f3:=bG.o.frozen 3;clear hx c0 c1 c2;have DJ:=ae (bG.o.drew.below ((ak _ _).alloc (aj _) (.cells #[.int .i64 n.kind,.int .i64 n.num,.string n.text,.string n.ref.sh,.int .i64 n.ref.c,.int .i64 n.ref.r,.bool n.ref.ac,.bool n.ref.ar,.string n.af.sh,.int .i64 n.af.c,.int .i64 n.af.r,.bool n.af.ac,.bool n.af.ar,k] 45)))
 go_region_law (refine IG kv.o ql rfl (.tmp 8) (.tmp 10) rfl (b+1) nv vs ?_ (bG.o.nodes.1.drew.alloc _) ⟨w1.heap.size,0,none⟩ 1 1 [v] ?_ rfl ?_ ?_ ?_ ?_ ?_;go_simp;go_simp;(subst ma;subst hn;exact ic (w:=w1.drew) _ _ _ rfl);exact bO (Nat.mul_le_mul_left _ kz) (by omega);(unfold maxLen;omega);(simp <;> omega);intro v' oz h1 h2 h4;obtain⟨g1,gm,rfl,hg0,hg1,hg2,hg3⟩:=Own.some h1 (by simp);obtain⟨d1,d2⟩:=DJ.o.KP h2;have HO:=ae h1;have HG:=ae h2;clear h1 h2 h4)
 all_goals
  go_wp2_with fail
  obtain⟨q1,q2⟩:=DJ.o.grow HG.o HO.o (mH.o.drew.alloc _) hc;rw[av,fE]at q1 q2;have hF:=(((Fr.of b bu.o).drew).below ((ak _ _).alloc (aj _) (.cells #[.int .i64 n.kind,.int .i64 n.num,.string n.text,.string n.ref.sh,.int .i64 n.ref.c,.int .i64 n.ref.r,.bool n.ref.ac,.bool n.ref.ar,.string n.af.sh,.int .i64 n.af.c,.int .i64 n.af.r,.bool n.af.ac,.bool n.af.ar,k] 45))).trans q2
  first
   | exact bodyPost_ret (results_none rfl _ _ _) rfl ⟨hF,rfl,_,q1⟩
   | (go_end0;exact⟨hF,rfl,_,q1⟩)
def Out (res:eQ)(w:World)(b:Nat)(tv:Value)(ts:List ai)(deep:Nat)(vs:List aC)(e:Ending)(w':World):Prop :=
 Fr w w' b∧((∃c,res = .error c∧(c=5∨c=6)∧e = .returned (.int .i64 c)) ∨
  (∃ms a r,res = .ok (ms,a,r)∧e = .returned (.int .i64 0)∧∃p' bq us,ts.drop p'=r∧us.map aC.n=ms∧(∀u∈us,∀g,u.bn.ownBlock=some g→w.heap.size≤g)∧bY w' b tv ts p' deep bq (vs++us)))
def aC.leaf(n:Nd):aC:=⟨n,none⟩
theorem yc (w:World)(lo:Nat)(n:Nd)(h:n.kids=[]):Own (aI .i64) 3 w lo (aC.leaf n).bn (aC.leaf n).n.kids:=by
 show Own (aI .i64) 3 w lo (.slice none 0 0) n.kids;rw[h];exact Own.nil _ _ _ _
theorem Cv {w:World}{b:Nat}{tv:Value}{ts:List ai}{p deep:Nat}{nv:Value}{vs:List aC}(h:bY w b tv ts p deep nv vs)(hnx:p+1<ts.length)(n:Nd)(hn:n.kids=[]) :
 Calls Tryz.prog 120 #[.pointer (some ⟨b,0,none⟩),.agg #[.int .i64 n.kind,.int .i64 n.num,.string n.text,.string n.ref.sh,.int .i64 n.ref.c,.int .i64 n.ref.r,.bool n.ref.ac,.bool n.ref.ar,.string n.af.sh,.int .i64 n.af.c,.int .i64 n.af.r,.bool n.af.ac,.bool n.af.ar,.slice none 0 0]] w fun e w'=>Fr w w' b∧e = .returned (.int .i64 0)∧∃bq,bY w' b tv ts (p+1) deep bq (vs++[aC.leaf n]):=by
 have hal:Below w.heap.size w (w.alloc (.cells #[.int .i64 n.kind,.int .i64 n.num,.string n.text,.string n.ref.sh,.int .i64 n.ref.c,.int .i64 n.ref.r,.bool n.ref.ac,.bool n.ref.ar,.string n.af.sh,.int .i64 n.af.c,.int .i64 n.af.r,.bool n.af.ac,.bool n.af.ar,.slice none 0 0] 45)):=(ak _ _).alloc (aj _) _;have bG:=ae (h.below hal);have hx:az (w.alloc (.cells #[.int .i64 n.kind,.int .i64 n.num,.string n.text,.string n.ref.sh,.int .i64 n.ref.c,.int .i64 n.ref.r,.bool n.ref.ac,.bool n.ref.ar,.string n.af.sh,.int .i64 n.af.c,.int .i64 n.af.r,.bool n.af.ac,.bool n.af.ar,.slice none 0 0] 45)) w.heap.size n (.slice none 0 0):=az.new w n _;have h2:=h.few;have h4:=h.cnt;have hbl:=h.blt;have hsz:(w.alloc (.cells #[.int .i64 n.kind,.int .i64 n.num,.string n.text,.string n.ref.sh,.int .i64 n.ref.c,.int .i64 n.ref.r,.bool n.ref.ac,.bool n.ref.ar,.string n.af.sh,.int .i64 n.af.c,.int .i64 n.af.r,.bool n.af.ac,.bool n.af.ar,.slice none 0 0] 45)).heap.size=w.heap.size+1:=by simp
 have bu:=ae hal;clear h hal;go_enter Tryz.func120,Tryz.ntmps120;go_upto_region 1 with (fail)
 generalize w.alloc (.cells #[.int .i64 n.kind,.int .i64 n.num,.string n.text,.string n.ref.sh,.int .i64 n.ref.c,.int .i64 n.ref.r,.bool n.ref.ac,.bool n.ref.ar,.string n.af.sh,.int .i64 n.af.c,.int .i64 n.af.r,.bool n.af.ac,.bool n.af.ar,.slice none 0 0] 45)=w1 at bG bu hx hsz ⊢;obtain⟨c0,c1,c2,c3⟩:=bG.o.facts;have f1:=bG.o.frozen 1;clear c0 c2 c3;go_upto_region 2 with (fail)
 have dI:=ae (bG.o.next hnx);have bZ:=ae (show az (w1.setCell ⟨b,1,none⟩ (.int .i64 ((p:Int)+1))) w.heap.size n (.slice none 0 0)from by unfold az;rw[fw _ _ _ _ (by show w.heap.size≠b;omega)];exact hx);have bT:=ae ((Fr.of b bu.o).setCell 1 (.int .i64 ((p:Int)+1)));clear c1 f1 hx bG bu hsz;generalize w1.setCell ⟨b,1,none⟩ (.int .i64 ((p:Int)+1))=w2 at dI bZ bT ⊢;obtain⟨x0,x1,x2,x3,x4,x5,x6,x7,ay,aO,aL,aM,aN,aJ⟩:=bZ.o.cells;have HA:=ae (DZ dI.o (aC.leaf n) (yc _ _ n hn) (by omega) (.slice none 0 0) rfl n rfl);go_wp2_with (go_at_call 118;((with_reducible refine HA.o.mono ?_);rintro e w3 ⟨h1,rfl,bq,h3⟩;have dP:=ae (bT.o.trans h1);have aY:=ae h3;clear h1 h3))
 go_ret;exact⟨dP.o,rfl,_,aY.o⟩
theorem pq:(⟨#[]⟩:ByteArray).toList=[]:=by rw[rz]
theorem Si (s1 s2:ByteArray)(c1 r1 c2 r2:Int)(a1 b1 a2 b2:Bool)(w:World) :
 Calls Tryz.prog 125 #[.agg #[.string s1,.int .i64 c1,.int .i64 r1,.bool a1,.bool b1],.agg #[.string s2,.int .i64 c2,.int .i64 r2,.bool a2,.bool b2]] w fun e w'=>e = .returned (.bool (fu ⟨s1,c1,r1,a1,b1⟩ ⟨s2,c2,r2,a2,b2⟩))∧Below w.heap.size w w':=by
 have hsz:(w.alloc (.cells #[.string s1,.int .i64 c1,.int .i64 r1,.bool a1,.bool b1] 43)).heap.size=w.heap.size+1:=by simp
 have h1:=df.new w s1 c1 r1 a1 b1;have h2:=df.new (w.alloc (.cells #[.string s1,.int .i64 c1,.int .i64 r1,.bool a1,.bool b1] 43)) s2 c2 r2 a2 b2;have h3:=h1.below ((ak _ _).alloc (aj _) (.cells #[.string s2,.int .i64 c2,.int .i64 r2,.bool a2,.bool b2] 43)) h1.lt;rw[hsz]at h2;have HB:=ae (((ak w.heap.size w).alloc (aj _) (.cells #[.string s1,.int .i64 c1,.int .i64 r1,.bool a1,.bool b1] 43)).alloc (by simp) (.cells #[.string s2,.int .i64 c2,.int .i64 r2,.bool a2,.bool b2] 43));have HS:=ae (show fu ⟨s1,c1,r1,a1,b1⟩ ⟨s2,c2,r2,a2,b2⟩=(decide (s2=⟨#[]⟩)&&(decide (c1≤c2)&&decide (r1≤r2)))from rfl);clear h1;go_enter Tryz.func125,Tryz.ntmps125;go_upto_region 1 with (fail)
 generalize (w.alloc (.cells #[.string s1,.int .i64 c1,.int .i64 r1,.bool a1,.bool b1] 43)).alloc (.cells #[.string s2,.int .i64 c2,.int .i64 r2,.bool a2,.bool b2] 43)=w1 at h2 h3 HB ⊢;obtain⟨x0,x1,x2,x3,x4⟩:=h2.facts;obtain⟨y0,y1,y2,y3,y4⟩:=h3.facts;clear h2 h3;by_cases hs:s2=⟨#[]⟩
 · subst hs
   have e0:=pq;by_cases hc:c1≤c2
   · by_cases hr:r1≤r2
     · have HT:=ae (show fu ⟨s1,c1,r1,a1,b1⟩ ⟨⟨#[]⟩,c2,r2,a2,b2⟩=true by rw[HS.o,aQ hc,aQ hr];rfl)
       go_wp2_with fail
       go_ret;exact⟨by rw[HT.o];rfl,HB.o⟩
     · have HT:=ae (show fu ⟨s1,c1,r1,a1,b1⟩ ⟨⟨#[]⟩,c2,r2,a2,b2⟩=false by rw[HS.o,aQ hc,aS hr];rfl)
       go_wp2_with fail
       go_ret;exact⟨by rw[HT.o];rfl,HB.o⟩
   · have HT:=ae (show fu ⟨s1,c1,r1,a1,b1⟩ ⟨⟨#[]⟩,c2,r2,a2,b2⟩=false by rw[HS.o,aS hc];rfl)
     go_wp2_with fail
     go_ret;exact⟨by rw[HT.o];rfl,HB.o⟩
 · have HT:=ae (show fu ⟨s1,c1,r1,a1,b1⟩ ⟨s2,c2,r2,a2,b2⟩=false by rw[HS.o,aS hs];rfl)
   have e0:¬ s2.toList=[]:=by rw[← pq];exact rM _ _ hs
   have e1:s2.toList.isEmpty=false:=by simpa using e0
   clear hs;go_wp2_with fail
   go_ret;exact⟨by rw[HT.o];rfl,HB.o⟩
theorem Out.leaf {res:eQ}{w w':World}{b:Nat}{tv:Value}{ts:List ai}{deep p':Nat}{vs:List aC}{bq:Value}{n:Nd}{a:Nat}{r:List ai}(hr:res = .ok ([n],a,r))(hf:Fr w w' b)(hp:ts.drop p'=r)(h:bY w' b tv ts p' deep bq (vs++[aC.leaf n])):Out res w b tv ts deep vs (.returned (.int .i64 0)) w' :=
 ⟨hf,.inr ⟨[n],a,r,hr,rfl,p',bq,[aC.leaf n],hp,rfl,(by intro u hu g hg;rw[fA.1 hu]at hg;cases hg),h⟩⟩
theorem Out.err{res:eQ}{w w':World}{b:Nat}{tv:Value}{ts:List ai}{deep:Nat}{vs:List aC}{c:Int}(hr:res = .error c)(hc:c=5∨c=6)(hf:Fr w w' b):Out res w b tv ts deep vs (.returned (.int .i64 c)) w':=⟨hf,.inl ⟨c,hr,hc,rfl⟩⟩
theorem df.set {w:World}{b:Nat}{s:ByteArray}{c r:Int}{ac ar:Bool}(h:df w b s c r ac ar){g:Nat}(hg:b≠g)(o:Nat)(v:Value):df (w.setCell ⟨g,o,none⟩ v) b s c r ac ar:=by
 unfold df;rw[fw _ _ _ _ (by exact hg)];exact h
theorem df.fr {w w':World}{b g:Nat}{s:ByteArray}{c r:Int}{ac ar:Bool}(h:df w g s c r ac ar)(hf:Fr w w' b)(hg:g≠b):df w' g s c r ac ar:=by
 unfold df;rw[hf.block g h.lt hg (.inr (by rintro⟨cur,fr,e⟩;unfold df at h;rw[h]at e;injection e with e;injection e with _ e;exact absurd e (by decide)))];exact h
theorem aeI {w:World}{b:Nat}{tv:Value}{ts:List ai}{p deep:Nat}{nv:Value}{vs:List aC}(h:bY w b tv ts p deep nv vs)(t:ai)(hnx:p+1<ts.length)(base:Nat) :
 Calls Tryz.prog 121 #[.pointer (some ⟨b,0,none⟩),.agg #[.string t.sh,.int .i64 t.c,.int .i64 t.r,.bool t.ac,.bool t.ar]] w (Out (jJ base t (ts.drop (p+1))) w b tv ts deep vs):=by
 have hal:Below w.heap.size w (w.alloc (.cells #[.string t.sh,.int .i64 t.c,.int .i64 t.r,.bool t.ac,.bool t.ar] 43)):=(ak _ _).alloc (aj _) _;have bG:=ae (h.below hal);have hx:=df.new w t.sh t.c t.r t.ac t.ar;have h2:=h.few;have hct:=h.cnt;have hbl:=h.blt;have bu:=ae hal;clear h hal;go_enter Tryz.func121,Tryz.ntmps121;go_upto_region 1 with (fail)
 generalize w.alloc (.cells #[.string t.sh,.int .i64 t.c,.int .i64 t.r,.bool t.ac,.bool t.ar] 43)=w1 at bG bu hx ⊢;obtain⟨c0,c1,c2,c3⟩:=bG.o.facts;have f1:=bG.o.frozen 1;clear c0 c2 c3;go_upto_region 2 with (fail)
 have dI:=ae (bG.o.next hnx);have bZ:=ae (hx.set (show w.heap.size≠b by omega) 1 (.int .i64 ((p:Int)+1)));have bT:=ae ((Fr.of b bu.o).setCell 1 (.int .i64 ((p:Int)+1)));clear c1 f1 hx bG bu;generalize w1.setCell ⟨b,1,none⟩ (.int .i64 ((p:Int)+1))=w2 at dI bZ bT ⊢;have HT:=ae (MG dI.o ⟨#[58]⟩);have hw0:w.heap.size≠b:=by omega
 cases hq:ax ⟨#[58]⟩ (ts.drop (p+1))
 · rw[hq,ag (by decide)]at HT
   have HR:=ae (show jJ base t (ts.drop (p+1)) = .ok ([{ Nd.zero with kind:=5,ref:=t.bR }],base,ts.drop (p+1))by unfold jJ;rw[hq,ag (by decide)]);clear hq;go_upto_region 3 with (go_at_call 144;((with_reducible refine HT.o.mono ?_);rintro e w3 ⟨h1,rfl,h3⟩;have dP:=ae (bT.o.trans h1);have eF:=ae (bZ.o.fr h1 hw0);have aY:=ae h3;clear h1 h3))
   obtain⟨x0,x1,x2,x3,x4⟩:=eF.o.facts;have HA:=ae (show Calls Tryz.prog 118 #[.pointer (some ⟨b,0,none⟩),.agg #[.int .i64 5,.int .i64 0,.string ⟨#[]⟩,.string t.sh,.int .i64 t.c,.int .i64 t.r,.bool t.ac,.bool t.ar,.string ⟨#[]⟩,.int .i64 0,.int .i64 0,.bool false,.bool false,.slice none 0 0]] w3 _ from DZ aY.o (aC.leaf { Nd.zero with kind:=5,ref:=t.bR }) (yc _ _ _ rfl) (by omega) (.slice none 0 0) rfl { Nd.zero with kind:=5,ref:=t.bR } rfl);go_wp2_with (go_at_call 118;((with_reducible refine HA.o.mono ?_);rintro e w4 ⟨h1,rfl,bq,h3⟩;have dY:=ae (dP.o.trans h1);have dD:=ae h3;clear h1 h3))
   go_ret;exact Out.leaf HR.o dY.o rfl dD.o
 · have xY:=Bt dI.o hq
   rw[hq,ah rfl]at HT;obtain⟨u,hu⟩:∃u,ts[p+2]? = some u:=⟨_,dL xY⟩
   have hd:(ts.drop (p+1)).tail=u :: ts.drop (p+3):=by
    rw[List.tail_drop,List.drop_eq_getElem_cons xY];rw[dL xY]at hu;rw[dU hu]
   have hR:jJ base t (ts.drop (p+1))=if u.kind=4∧fu t.bR u.bR=true then .ok ([(⟨6,0,⟨#[]⟩,t.bR,u.bR,[]⟩:Nd)],base,ts.drop (p+3))else .error 5:=by
    unfold jJ;rw[hq,ah rfl,hd] <;> rfl
   clear hq hd
   go_upto_region 6 with (first
    | (go_at_call 144;((with_reducible refine HT.o.mono ?_);rintro e w3 ⟨h1,rfl,h3⟩;have dP:=ae (bT.o.trans h1);have eF:=ae (bZ.o.fr h1 hw0);have aY:=ae h3;have aR:=ae (H8 h3 u hu);clear h1 h3))
    | (go_at_call 61;((with_reducible refine aR.o.mono ?_);rintro e w4 ⟨rfl,h1⟩;have dY:=ae (dP.o.below h1);have nA:=ae (eF.o.below h1 eF.o.lt);have dD:=ae (aY.o.below h1);clear h1)))
   have hB:Below w4.heap.size w4 (w4.alloc (.cells #[.int .i64 u.kind,.string u.text,.int .i64 u.num,.string u.sh,.int .i64 u.c,.int .i64 u.r,.bool u.ac,.bool u.ar,.int .i64 u.pos] 71)):=(ak _ _).alloc (aj _) _;have gI:aG (w4.alloc (.cells #[.int .i64 u.kind,.string u.text,.int .i64 u.num,.string u.sh,.int .i64 u.c,.int .i64 u.r,.bool u.ac,.bool u.ar,.int .i64 u.pos] 71)) w4.heap.size u:=aG.new w4 u;have bg:=ae (dY.o.below hB);have oG:=ae (nA.o.below hB nA.o.lt);have aU:=ae (dD.o.below hB);clear hB dP eF aY aR dY nA dD HT bZ dI bT;generalize hb4:w4.heap.size=b4 at gI ⊢;generalize w4.alloc (.cells #[.int .i64 u.kind,.string u.text,.int .i64 u.num,.string u.sh,.int .i64 u.c,.int .i64 u.r,.bool u.ac,.bool u.ar,.int .i64 u.pos] 71)=w5 at gI bg oG aU ⊢;clear hb4;obtain⟨x0,x1,x2,x3,x4,x5,x6,x7,ay⟩:=gI.cells;obtain⟨y0,y1,y2,y3,y4⟩:=oG.o.facts;by_cases h4:u.kind=4
   · have e4:(u.kind != 4)=false:=by rw[h4];rfl
     have e5:(u.kind == 4)=true:=bA.2 h4;have HI:=ae (Si t.sh u.sh t.c t.r u.c u.r t.ac t.ar u.ac u.ar w5);cases hs:fu t.bR u.bR
     · have HR:=ae (show jJ base t (ts.drop (p+1)) = .error 5 by rw[hR,hs,ag (by simp)])
       have HS:=ae (show fu ⟨t.sh,t.c,t.r,t.ac,t.ar⟩ ⟨u.sh,u.c,u.r,u.ac,u.ar⟩=false from hs);rw[HS.o]at HI;clear hR hs h4;go_wp2_with (go_at_call 125;((with_reducible refine HI.o.mono ?_);rintro e w6 ⟨rfl,h1⟩;have ek:=ae (bg.o.below h1);clear h1))
       go_ret;exact Out.err HR.o (.inl rfl) ek.o
     · have HR:=ae (show jJ base t (ts.drop (p+1)) = .ok ([(⟨6,0,⟨#[]⟩,t.bR,u.bR,[]⟩:Nd)],base,ts.drop (p+3))by rw[hR,hs,ah ⟨h4,rfl⟩])
       have HS:=ae (show fu ⟨t.sh,t.c,t.r,t.ac,t.ar⟩ ⟨u.sh,u.c,u.r,u.ac,u.ar⟩=true from hs);rw[HS.o]at HI;have dR:=ae (aU.o.fit.next hu (by omega));have gI:=ae gI;clear hR hs h4 x0 x1 x2 x3 x4 x5 x6 x7 ay y0 y1 y2 y3 y4;obtain⟨x0,x1,x2,x3,x4,x5,x6,x7,ay⟩:=gI.o.cells;obtain⟨y0,y1,y2,y3,y4⟩:=oG.o.facts;go_upto_region 8 with (go_at_call 125;((with_reducible refine HI.o.mono ?_);rintro e w6 ⟨rfl,h1⟩;have ek:=ae (bg.o.below h1);have dJ:=ae (aU.o.below h1);have FN:=ae (oG.o.below h1 oG.o.lt);have Dz:=ae (gI.o.below h1 gI.o.lt);clear h1))
       clear x0 x1 x2 x3 x4 x5 x6 x7 ay y0 y1 y2 y3 y4;obtain⟨x0,x1,x2,x3,x4,x5,x6,x7,ay⟩:=Dz.o.cells;obtain⟨y0,y1,y2,y3,y4⟩:=FN.o.facts;have HA:=ae (show Calls Tryz.prog 120 #[.pointer (some ⟨b,0,none⟩),.agg #[.int .i64 6,.int .i64 0,.string ⟨#[]⟩,.string t.sh,.int .i64 t.c,.int .i64 t.r,.bool t.ac,.bool t.ar,.string u.sh,.int .i64 u.c,.int .i64 u.r,.bool u.ac,.bool u.ar,.slice none 0 0]] w6 _ from Cv dJ.o dR.o (⟨6,0,⟨#[]⟩,t.bR,u.bR,[]⟩:Nd) rfl);go_wp2_with (go_at_call 120;((with_reducible refine HA.o.mono ?_);rintro e w7 ⟨h1,rfl,bq,h3⟩;have bX:=ae (ek.o.trans h1);have bC:=ae h3;clear h1 h3))
       go_ret;exact Out.leaf HR.o bX.o rfl bC.o
   · have e4:(u.kind != 4)=true:=by rw[bne_iff_ne];exact h4
     have e5:(u.kind == 4)=false:=aA.2 h4;have HR:=ae (show jJ base t (ts.drop (p+1)) = .error 5 by rw[hR,ag (fun h=>h4 h.1)]);clear hR h4;go_wp2_with fail
     go_ret;exact Out.err HR.o (.inl rfl) bg.o
theorem Out.ret {res:eQ}{w w':World}{b:Nat}{tv:Value}{ts:List ai}{deep:Nat}{vs:List aC}{e:Ending}(h:Out res w b tv ts deep vs e w'):∃c,e = .returned (.int .i64 c):=by
 rcases h.2 with ⟨c,_,_,h⟩|⟨_,_,_,_,h,_⟩
 · exact⟨c,h⟩
 · exact⟨0,h⟩
theorem Out.bad {res:eQ}{w w':World}{b:Nat}{tv:Value}{ts:List ai}{deep:Nat}{vs:List aC}{e:Ending}{c:Int}(h:Out res w b tv ts deep vs e w')(hr:res = .error c):Fr w w' b∧(c=5∨c=6)∧e = .returned (.int .i64 c):=by
 rcases h.2 with ⟨c',h1,h2,h3⟩|⟨ms,a,r,h1,_⟩
 · rw[hr]at h1;injection h1 with h1;subst h1;exact⟨h.1,h2,h3⟩
 · rw[hr]at h1;cases h1
theorem Out.sH {res:eQ}{w w':World}{b:Nat}{tv:Value}{ts:List ai}{deep:Nat}{vs:List aC}{e:Ending}{ms:List Nd}{a:Nat}{r:List ai}(h:Out res w b tv ts deep vs e w')(hr:res = .ok (ms,a,r)) :
 Fr w w' b∧e = .returned (.int .i64 0)∧∃p' bq us,ts.drop p'=r∧us.map aC.n=ms∧(∀u∈us,∀g,u.bn.ownBlock=some g→w.heap.size≤g)∧bY w' b tv ts p' deep bq (vs++us):=by
 rcases h.2 with ⟨c',h1,h2,h3⟩|⟨ms',a',r',h1,h2,h3⟩
 · rw[hr]at h1;cases h1
 · rw[hr]at h1;injection h1 with h1;injection h1 with e1 e2;injection e2 with e2 e3;subst e1;subst e3;exact⟨h.1,h2,h3⟩
theorem Ir {w:World}{b:Nat}{tv:Value}{ts:List ai}{p deep:Nat}{nv:Value}{vs:List aC}(h:bY w b tv ts p deep nv vs)(a:Nat)(ha:a+1=vs.length) :
 Calls Tryz.prog 119 #[.pointer (some ⟨b,0,none⟩)] w fun e w'=>e = .returned (.int .i64 (a:Int))∧w=w':=by
 have:=af1 h (by omega);rw[show(vs.length:Int) - 1=(a:Int)by omega]at this;exact this
theorem HZ (w:World)(base:Nat)(x y:Int)(hb:base≤w.heap.size):Own (aI .i64) 3 (w.alloc (.cells #[.int .i64 x,.int .i64 y] 3)) base (.slice (some ⟨w.heap.size,0,none⟩) 2 2) [x,y] :=
 ⟨rfl,.inr ⟨w.heap.size,2,_,rfl,hb,(kW w _).1,aj _,by decide,rfl,rfl⟩⟩
theorem HY (w:World)(base:Nat)(x:Int)(hb:base≤w.heap.size):Own (aI .i64) 3 (w.alloc (.cells #[.int .i64 x] 3)) base (.slice (some ⟨w.heap.size,0,none⟩) 1 1) [x] :=
 ⟨rfl,.inr ⟨w.heap.size,1,_,rfl,hb,(kW w _).1,aj _,by decide,rfl,rfl⟩⟩
def yz (f:Nat):Prop:=∀(n deep:Nat)(res:eQ)(w:World)(b:Nat)(tv:Value)(ts:List ai)(p:Nat)(nv:Value)(vs:List aC),n≤4→bY w b tv ts p deep nv vs→eU f n deep vs.length (ts.drop p)=some res →
 Calls Tryz.prog 60 #[.pointer (some ⟨b,0,none⟩),.int .i64 (n:Int)] w (Out res w b tv ts deep vs)
theorem yZ {f n deep base:Nat}{ts:List ai}{p p':Nat}{ns:List Nd}{a:Nat}{r:List ai}(h:eU f n deep base (ts.drop p)=some (.ok (ns,a,r)))(hr:ts.drop p'=r)(hl:p'<ts.length):ns.length+p≤p'∧a+1=base+ns.length∧1≤ns.length:=by
 have h1:=(Qe f).1 _ _ _ _ _ _ _ h;have h2:=(vQ f).1 _ _ _ _ _ _ _ h;subst hr;rw[lG,lG]at h1;exact⟨by omega,h2.2.1,h2.2.2⟩
theorem af5 (f:Nat)(IH:∀g,g≤f→yz g)(n:Nat)(hn:n≤3){w:World}{b:Nat}{tv:Value}{ts:List ai}{p deep:Nat}{nv:Value}{vs:List aC}(h:bY w b tv ts p deep nv vs)(res:eQ)
 (au:iW (eU f (n+1) deep vs.length (ts.drop p)) (fun ns a r=>iJ f n deep vs.length ns a r)=some res) :
 Calls Tryz.prog 115 #[.pointer (some ⟨b,0,none⟩),.int .i64 (n:Int)] w (Out res w b tv ts deep vs):=by
 have hw1 : -9223372036854775808≤(n:Int)+1:=by omega
 have hw2:(n:Int)+1≤9223372036854775807:=by omega
 have vC:n+1≤4:=by omega
 rcases eG au with ⟨c,h1,rfl⟩|⟨ns,a,r,h1,h2⟩
 · have HL:=ae (show Calls Tryz.prog 60 #[.pointer (some ⟨b,0,none⟩),.int .i64 ((n:Int)+1)] w (Out (.error c) w b tv ts deep vs)from IH f (aj _) (n+1) deep _ w b tv ts p nv vs vC h h1)
   clear au h1 IH h;go_enter Tryz.func115,Tryz.ntmps115;go_wp2_with (go_at_call 60;((with_reducible refine HL.o.mono ?_);intro e w2 ho;obtain⟨hf,hc,rfl⟩:=ho.bad rfl;have HF:=ae hf;have HC:=ae hc;have hc0:(c != 0)=true:=(by rw[bne_iff_ne];rcases hc with h|h <;> omega);clear hf hc ho))
   go_ret;exact Out.err rfl HC.o HF.o
 · have HL := ae (show Calls Tryz.prog 60 #[.pointer (some ⟨b,0,none⟩),.int .i64 ((n:Int)+1)] w (Out (.ok (ns,a,r)) w b tv ts deep vs)from IH f (aj _) (n+1) deep _ w b tv ts p nv vs vC h h1)
   have rZ:=ae IH;have H1:=ae h1;have H2:=ae h2;have hcn:=h.cnt;have HP:=ae h;clear au h1 h2 IH h;go_enter Tryz.func115,Tryz.ntmps115;go_upto_region 4 with (go_at_call 60;((with_reducible refine HL.o.mono ?_);intro e w2 ho;obtain⟨hf,rfl,p1,nv1,us1,hp1,hu1,hk1,Rt⟩:=ho.sH rfl;have kK:=ae hf;have bG:=ae Rt;have HD1:=ae hp1;have J3:=ae hu1;have mH:=ae hk1;clear hf ho hp1 hu1 hk1 Rt))
   go_loopw [] (fun wr=>∃(g:Nat)(ns':List Nd)(a' p':Nat)(bq:Value)(us:List aC),g≤f∧a'+1=vs.length+ns'.length∧us.length=ns'.length∧Hid (iJ g n deep vs.length ns' a' (ts.drop p')=some res)∧Hid (us.map aC.n=ns')∧Hid (∀u∈us,∀j,u.bn.ownBlock=some j→w.heap.size≤j)∧Hid (bY wr b tv ts p' deep bq (vs++us))∧Hid (Fr w wr b))
    (fun wr=>wQ b ts.length wr)
   case atStart =>
    have h3:=yZ H1.o HD1.o bG.o.lt;refine⟨f,ns,a,p1,nv1,us1,aj _,h3.2.1,by rw[← J3.o,eB], ?_,J3,mH,bG,kK⟩;rw[HD1.o];exact H2
   case round =>
    clear HL H1 H2 kK bG HD1 J3 mH;obtain⟨g,ns',a',p',bq,us,hg,ha,AZ,HR,HU,HK,iV,HF⟩:=hrel;have hlt:=iV.o.lt;have kR:=iV.o.few;have tZ:=iV.o.cnt;rw[av]at tZ;have HM:=ae (iV.o.wQ ts.length);have HO:=ae (aer iV.o n hn)
    match g,hg,HR with
    | 0,_,HR=>have:=HR.o;unfold iJ at this;cases this
    | g+1,hg,HR =>
    have hr:=HR.o;rw[qB]at hr;by_cases h0:fC n (ts.drop p')=0
    · rw[ah h0]at hr
      injection hr with hr;have JQ:=ae hr.symm;rw[h0]at HO;have HO:=ae (show Calls Tryz.prog 143 #[.pointer (some ⟨b,0,none⟩),.int .i64 (n:Int)] wr fun e w'=>e = .returned (.tuple #[.int .i64 0,.bool false])∧Below wr.heap.size wr w' from HO.o);clear hr h0 HR;go_wp2_with (go_at_call 143;((with_reducible refine HO.o.mono ?_);rintro e w3 ⟨rfl,h1⟩;have dP:=ae (HF.o.below h1);have aY:=ae (iV.o.below h1);clear h1))
      go_ret;exact⟨dP.o,.inr ⟨_,_,_,JQ.o,rfl,p',bq,us,rfl,HU.o,HK.o,aY.o⟩⟩
    · rw [ag h0]at hr
      obtain⟨kd,hkd⟩:∃kd,fC n (ts.drop p')=kd:=⟨_,rfl⟩;obtain⟨q,hq1,hq2,hq3⟩:=EH h0;have hnx:=Bt iV.o hq2;clear hq1 hq2 hq3 q;rw[hkd]at HO hr h0;have HO:=ae (show Calls Tryz.prog 143 #[.pointer (some ⟨b,0,none⟩),.int .i64 (n:Int)] wr fun e w'=>e = .returned (.tuple #[.int .i64 kd,.bool true])∧Below wr.heap.size wr w' by have:=HO.o;rw[aQ h0]at this;exact this);rw[List.tail_drop]at hr;have jT:vs.length+ns'.length=(vs++us).length:=by rw[av,AZ]
      rw[jT]at hr;have HRR:=ae hr;clear hr h0 HR hkd;go_upto_region 7 with (go_at_call 143;((with_reducible refine HO.o.mono ?_);rintro e w3 ⟨rfl,h1⟩;have dP:=ae (HF.o.below h1);have aY:=ae (iV.o.below h1);clear h1))
      clear HO HF iV;obtain⟨c0,c1,c2,c3⟩:=aY.o.facts;have f1:=aY.o.frozen 1;clear c0 c2 c3;go_upto_region 8 with (fail)
      have dD:=ae (aY.o.next hnx);have dY:=ae (dP.o.setCell 1 (.int .i64 ((p':Int)+1)));clear c1 f1 aY dP;generalize w3.setCell ⟨b,1,none⟩ (.int .i64 ((p':Int)+1))=w4 at dD dY ⊢;have JR:=ae (Ir dD.o a' (by rw[ha,jT]));rcases eG HRR.o with ⟨c,h1,h2⟩|⟨ms,b2,r2,h1,h2⟩
      · subst h2
        have HL:=ae (show Calls Tryz.prog 60 #[.pointer (some ⟨b,0,none⟩),.int .i64 ((n:Int)+1)] w4 (Out (.error c) w4 b tv ts deep (vs++us))from rZ.o g (by omega) (n+1) deep _ w4 b tv ts (p'+1) bq (vs++us) vC dD.o h1);clear h1 HRR
        go_wp2_with (first
         | (go_at_call 119;((with_reducible refine JR.o.mono ?_);rintro e wn ⟨rfl,rfl⟩))
         | (go_at_call 60;((with_reducible refine HL.o.mono ?_);intro e w5 ho;obtain⟨hf,hc,rfl⟩:=ho.bad rfl;have bg:=ae (dY.o.trans hf);have HC:=ae hc;have hc0:(c != 0)=true:=(by rw[bne_iff_ne];rcases hc with h|h <;> omega);clear hf hc ho)))
        go_ret;exact Out.err rfl HC.o bg.o
      · have HL := ae (show Calls Tryz.prog 60 #[.pointer (some ⟨b,0,none⟩),.int .i64 ((n:Int)+1)] w4 (Out (.ok (ms,b2,r2)) w4 b tv ts deep (vs++us))from rZ.o g (by omega) (n+1) deep _ w4 b tv ts (p'+1) bq (vs++us) vC dD.o h1)
        have H1:=ae h1;have H2:=ae h2;clear h1 h2 HRR
        go_upto_region 12 with (first
         | (go_at_call 119;((with_reducible refine JR.o.mono ?_);rintro e wn ⟨rfl,rfl⟩))
         | (go_at_call 60;((with_reducible refine HL.o.mono ?_);intro e w5 ho;obtain⟨hf,rfl,p5,oM,dN,lT,j6,hk5,iX⟩:=ho.sH rfl;have BR:=ae hf.size;have bg:=ae (dY.o.trans hf);have aU:=ae iX;have HD5:=ae lT;have lh:=ae j6;have lg:=ae hk5;clear hf ho lT j6 hk5 iX)))
        obtain⟨hc1,hc2,hc3⟩:=yZ H1.o HD5.o aU.o.lt;have GH:dN.length=ms.length:=by rw[← lh.o,eB]
        have Gu:((vs++us)++dN).length=vs.length+us.length+dN.length:=by rw[av,av]
        have ajJ:(vs++us).length=vs.length+us.length:=av;have FI:=ae (Ir aU.o b2 (by omega));have hbl:=aU.o.blt;have il:Below w5.heap.size w5 (w5.alloc (.cells #[.int .i64 (a':Int),.int .i64 (b2:Int)] 3)):=(ak _ _).alloc (aj _) _;have dJ:=ae (aU.o.below il);have ek:=ae (bg.o.below il);have HA:=ae (show Calls Tryz.prog 118 #[.pointer (some ⟨b,0,none⟩),.agg #[.int .i64 kd,.int .i64 0,.string ⟨#[]⟩,.string ⟨#[]⟩,.int .i64 0,.int .i64 0,.bool false,.bool false,.string ⟨#[]⟩,.int .i64 0,.int .i64 0,.bool false,.bool false,.slice (some ⟨w5.heap.size,0,none⟩) 2 2]] (w5.alloc (.cells #[.int .i64 (a':Int),.int .i64 (b2:Int)] 3)) _ from DZ dJ.o ⟨{ Nd.zero with kind:=kd,kids:=[(a':Int),(b2:Int)] },some (w5.heap.size,2)⟩ (HZ w5 (b+1) (a':Int) (b2:Int) (by omega)) (by omega) (.slice (some ⟨w5.heap.size,0,none⟩) 2 2) rfl { Nd.zero with kind:=kd,kids:=[(a':Int),(b2:Int)] } rfl);clear il HL JR
        go_wp2_with (first
         | (go_at_call 119;((with_reducible refine FI.o.mono ?_);rintro e wn ⟨rfl,rfl⟩))
         | (go_at_call 118;((with_reducible refine HA.o.mono ?_);rintro e w7 ⟨h1,rfl,Bh,h3⟩;have bX:=ae (ek.o.trans h1);have bC:=ae h3;clear h1 h3)))
        go_roundw
        case rel =>
         refine⟨g,ns'++(ms++[{ Nd.zero with kind:=kd,kids:=[(a':Int),(b2:Int)] }]),vs.length+(ns'.length+ms.length),p5,Bh,us++(dN++[⟨{ Nd.zero with kind:=kd,kids:=[(a':Int),(b2:Int)] },some (w5.heap.size,2)⟩]),by omega, ?_, ?_, ?_, ?_, ?_, ?_,bX⟩;rotate_left 2
         · rw[HD5.o];exact H2
         · refine ae ?_
           rw[gP,gP,HU.o,lh.o];rfl
         · refine ae ?_
           intro u hu j hj;rcases dK.1 hu with hu|hu
           · exact HK.o u hu j hj
           · rcases dK.1 hu with hu|hu
             · have:=lg.o u hu j hj;have:=dY.o.size;omega
             · rw[fA.1 hu]at hj
               have hj:some w5.heap.size=some j:=hj;injection hj with hj;have:=bg.o.size;omega
         · rw[← bN, ← bN];exact bC
         · rw[av,av,fE];omega
         · rw[av,av,av,av,fE,fE];omega
        case measure =>
         have h1:=bC.o.wQ ts.length;rw[HM.o,h1];omega
def Gd (f deep base:Nat)(ts:List ai):Option eQ :=
 if ax ⟨#[40]⟩ ts=true then
  if 12≤deep then some (.error 6)
  else iW (eU f 0 (deep+1) base ts.tail) fun ns a r=>if ax ⟨#[41]⟩ r=true then some (.ok (ns,a,r.tail))else some (.error 5)
 else some (.error 5)
theorem abK (f:Nat)(IH:yz f){w:World}{b:Nat}{tv:Value}{ts:List ai}{p deep:Nat}{nv:Value}{vs:List aC}(h:bY w b tv ts p deep nv vs)(res:eQ)(au:Gd f deep vs.length (ts.drop p)=some res) :
 Calls Tryz.prog 123 #[.pointer (some ⟨b,0,none⟩)] w (Out res w b tv ts deep vs):=by
 have HS:=ae (A8 h ⟨#[40]⟩);unfold Gd at au;have HP:=ae h;cases hq:ax ⟨#[40]⟩ (ts.drop p)
 · rw[hq,ag (by decide)]at au
   injection au with au;have HR:=ae au.symm;rw[hq]at HS;clear hq au h;go_enter Tryz.func123,Tryz.ntmps123;go_wp2_with (go_at_call 116;((with_reducible refine HS.o.mono ?_);rintro e w1 ⟨rfl,h1⟩;have HB:=ae h1;clear h1))
   go_ret;exact Out.err HR.o (.inl rfl) (Fr.of b HB.o)
 · have hnx:=Bt h hq
   rw[hq,ah rfl]at au;rw[hq]at HS;by_cases hd:12≤deep
   · rw [ah hd]at au
     injection au with au;have HR:=ae au.symm;clear hq au h;go_enter Tryz.func123,Tryz.ntmps123
     go_wp2_with (first
      | (go_at_call 116;((with_reducible refine HS.o.mono ?_);rintro e w1 ⟨rfl,h1⟩;have kK:=ae (Fr.of b h1);have fZ:=ae (zy (HP.o.below h1) hnx);clear h1))
      | (go_at_call 117;((with_reducible refine fZ.o.mono ?_);rintro e w2 ⟨h1,⟨-,rfl⟩|⟨h2, -⟩⟩;rotate_left;exact absurd hd h2;have bT:=ae (kK.o.trans h1);clear h1)))
     go_ret;exact Out.err HR.o (.inr rfl) bT.o
   · rw [ag hd,List.tail_drop]at au
     rcases eG au with ⟨c,h1,rfl⟩|⟨ns,a,r,h1,h2⟩
     · have HI:=ae (fun w2 hps=>IH 0 (deep+1) _ w2 b tv ts (p+1) nv vs (by omega) hps h1)
       clear hq au h IH h1;go_enter Tryz.func123,Tryz.ntmps123
       go_wp2_with (first
        | (go_at_call 116;((with_reducible refine HS.o.mono ?_);rintro e w1 ⟨rfl,h1⟩;have kK:=ae (Fr.of b h1);have fZ:=ae (zy (HP.o.below h1) hnx);clear h1))
        | (go_at_call 117;((with_reducible refine fZ.o.mono ?_);rintro e w2 ⟨h1,⟨h2, -⟩|⟨-,rfl,h3⟩⟩;exact absurd h2 hd;have bT:=ae (kK.o.trans h1);have HL:=ae (show Calls Tryz.prog 60 #[.pointer (some ⟨b,0,none⟩),.int .i64 0] w2 (Out (.error c) w2 b tv ts (deep+1) vs)from HI.o w2 h3);clear h1 h3))
        | (go_at_call 60;((with_reducible refine HL.o.mono ?_);intro e w5 ho;obtain⟨hf,hc,rfl⟩:=ho.bad rfl;have bg:=ae (bT.o.trans hf);have HC:=ae hc;have hc0:(c != 0)=true:=(by rw[bne_iff_ne];rcases hc with h|h <;> omega);clear hf hc ho)))
       go_ret;exact Out.err rfl HC.o bg.o
     · have HI:=ae (fun w2 hps=>IH 0 (deep+1) _ w2 b tv ts (p+1) nv vs (by omega) hps h1)
       have H2:=ae h2;clear hq au h IH h1 h2;go_enter Tryz.func123,Tryz.ntmps123
       go_upto_region 9 with (first
        | (go_at_call 116;((with_reducible refine HS.o.mono ?_);rintro e w1 ⟨rfl,h1⟩;have kK:=ae (Fr.of b h1);have HZ1:=ae h1.size;have fZ:=ae (zy (HP.o.below h1) hnx);clear h1))
        | (go_at_call 117;((with_reducible refine fZ.o.mono ?_);rintro e w2 ⟨h1,⟨h2, -⟩|⟨-,rfl,h3⟩⟩;exact absurd h2 hd;have bT:=ae (kK.o.trans h1);have HL:=ae (show Calls Tryz.prog 60 #[.pointer (some ⟨b,0,none⟩),.int .i64 0] w2 (Out (.ok (ns,a,r)) w2 b tv ts (deep+1) vs)from HI.o w2 h3);clear h1 h3))
        | (go_at_call 60;((with_reducible refine HL.o.mono ?_);intro e w5 ho;obtain⟨hf,rfl,p5,oM,dN,lT,j6,hk5,iX⟩:=ho.sH rfl;have bg:=ae (bT.o.trans hf);have Fx:=ae (Ug iX);have HD5:=ae lT;have lh:=ae j6;have lg:=ae hk5;clear hf ho lT j6 hk5 iX)))
       have h2:=H2.o;rw[← HD5.o]at h2;have hz:=bT.o.size;cases hs:ax ⟨#[41]⟩ (ts.drop p5)
       · rw[hs,ag (by decide)]at h2
         injection h2 with h2;have HR:=ae h2.symm;rw[hs]at Fx;clear h2 hs;go_wp2_with (go_at_call 146;((with_reducible refine Fx.o.mono ?_);rintro e w6 ⟨h1,⟨-,rfl⟩|⟨h2, -⟩⟩;rotate_left;cases h2;have ek:=ae (bg.o.trans h1);clear h1))
         go_ret;exact Out.err HR.o (.inl rfl) ek.o
       · rw[hs,ah rfl,List.tail_drop]at h2
         injection h2 with h2;have HR:=ae h2.symm;rw[hs]at Fx;clear h2 hs;go_wp2_with (go_at_call 146;((with_reducible refine Fx.o.mono ?_);rintro e w6 ⟨h1,⟨h2, -⟩|⟨-,rfl,h3⟩⟩;cases h2;have ek:=ae (bg.o.trans h1);have dJ:=ae h3;clear h1 h3))
         go_ret;exact⟨ek.o,.inr ⟨_,_,_,HR.o,rfl,p5+1,oM,dN,rfl,lh.o,fun u hu j hj=>bO hz (lg.o u hu j hj),dJ.o⟩⟩
theorem Elem.kid:∃n,n≤100∧Elem Tryz.prog 28 3 1 n:=⟨8,by omega,Tryz.underlying28,⟨.int .i64 0,by kernel_rfl,rfl⟩,by decide⟩
theorem Own.kP {α : Type}{size:Nat}{E:Enc α size}{e:TypeId}{w:World}{base:Nat}{v:Value}{xs:List α}(h:Own E e w base v xs):∀g,v.ownBlock=Option.some g→base≤g∧g<w.heap.size∧∃cur,w.heap[g]? = Option.some (.cells cur e):=by
 intro g e;rcases h.2 with ⟨h1,_⟩|⟨g',cap,cur,h1,h2,h3,_⟩
 · rw[h1]at e;cases e
 · rw[h1]at e;injection e with e
   have e:g'=g:=e;subst e;exact⟨h2,(dn.1 h3).1,cur,h3⟩
theorem bY.kids {w w':World}{b:Nat}{tv:Value}{ts:List ai}{p deep:Nat}{nv:Value}{vs:List aC}(h:bY w b tv ts p deep nv vs){r:Option Nat}(hg:w.grownBy w' r)(hr:∀g,r=some g→b<g∧¬ BV w g∧∀v∈vs,v.bn.ownBlock≠some g):bY w' b tv ts p deep nv vs:=by
 have xU:=h.low;refine⟨?_, ?_,⟨h.nodes.1.keep ?_,fun v hv=>(h.nodes.2 v hv).keep ?_⟩, ?_,h.lt,h.low,h.fit,h.few,h.cnt,h.nest⟩
 · rw[hg.block b h.blt (by intro e;have:=(hr b e.symm).1;omega)];exact h.cell
 · obtain ⟨g,cap,h1,h2,h3⟩:=h.qG
   exact ⟨g,cap,h1,h2,h3.keep fun j _ hj e=>hg.block j hj (by
    intro e2;have:=(hr j e2.symm).1;rw[h1]at e;injection e with e;have:g=j:=e;omega)⟩
 · intro g h1 h2 h3
   exact hg.block g h2 (fun e=>(hr g e.symm).2.1 (h.row g h3).2)
 · intro g h1 h2 h3
   exact hg.block g h2 (fun e=>(hr g e.symm).2.2 v hv h3)
 · exact h.ops.keep (hg.block _ h.ops.lt (by intro e;have:=(hr _ e.symm).1;omega))
def tN (base:Nat)(name:ByteArray)(ns:List Nd)(ks:List Int)(r:List ai):Option eQ :=
 if ax ⟨#[41]⟩ r=true then some (.ok (ns++[{ Nd.zero with kind:=7,text:=name,kids:=ks }],base+ns.length,r.tail))else some (.error 5)
def Ce (f deep base:Nat)(name:ByteArray)(ts:List ai):Option eQ :=
 if 12≤deep then some (.error 6)
 else iW (if ax ⟨#[41]⟩ ts.tail=true then some (.ok ([],[],ts.tail))else ib f (deep+1) base [] [] ts.tail) (tN base name)
theorem YT (f:Nat)(name:ByteArray){w:World}{b:Nat}{tv:Value}{ts:List ai}{p deep:Nat}{nv:Value}{vs:List aC}(h:bY w b tv ts p deep nv vs)(hnx:p+1<ts.length)(res:eQ)(au:Ce f deep vs.length name (ts.drop p)=some res)(hd:12≤deep) :
 Calls Tryz.prog 145 #[.pointer (some ⟨b,0,none⟩),.string name] w (Out res w b tv ts deep vs):=by
 have HO:=ae (zy h hnx);unfold Ce at au;rw[ah hd]at au;injection au with au;have HR:=ae au.symm;clear au h;go_enter Tryz.func145,Tryz.ntmps145;go_wp2_with (go_at_call 117;((with_reducible refine HO.o.mono ?_);rintro e w2 ⟨h1,⟨-,rfl⟩|⟨h2, -⟩⟩;rotate_left;exact absurd hd h2;have bT:=ae h1;clear h1))
 go_ret;exact Out.err HR.o (.inr rfl) bT.o
theorem PQ {α β γ α' β' γ' δ : Type}(x:Option (Except Int (α × β × γ)))(k : α → β → γ → Option (Except Int (α' × β' × γ')))(K : α' → β' → γ'→Option (Except Int δ)):iW (iW x k) K=iW x fun a b c=>iW (k a b c) K:=by
 match x with
 | none=>rfl
 | some (.error e)=>rfl
 | some (.ok (a,b,c))=>rfl
theorem YS (f:Nat)(IH:∀g,g≤f→yz g)(name:ByteArray){w:World}{b:Nat}{tv:Value}{ts:List ai}{p deep:Nat}{nv:Value}{vs:List aC}(h:bY w b tv ts p deep nv vs)(hnx:p+1<ts.length)(res:eQ)(au:Ce f deep vs.length name (ts.drop p)=some res) :
 Calls Tryz.prog 145 #[.pointer (some ⟨b,0,none⟩),.string name] w (Out res w b tv ts deep vs):=by
 by_cases hd:12≤deep
 · exact YT f name h hnx res au hd
 have HO:=ae (zy h hnx);unfold Ce at au;rw[ag hd,List.tail_drop]at au;have uM:=ae au;have rZ:=ae IH;have hbl:=h.blt;obtain⟨eb,kz,dh⟩:=Elem.kid;have kv:=ae dh;clear au h IH dh;go_enter Tryz.func145,Tryz.ntmps145
 go_upto_region 6 with (first
  | (go_at_call 117;((with_reducible refine HO.o.mono ?_);rintro e w2 ⟨h1,⟨h2, -⟩|⟨-,rfl,h3⟩⟩;exact absurd h2 hd;have bT:=ae h1;have dI:=ae h3;have HS2:=ae (A8 h3 ⟨#[41]⟩);clear h1 h3))
  | (go_at_call 116;((with_reducible refine HS2.o.mono ?_);rintro e w3 ⟨rfl,h1⟩;have dP:=ae (bT.o.below h1);have aY:=ae (dI.o.below h1);clear h1)))
 go_loopw [6,7] (fun LK mv wr=>∃(bn:Value)(more:Bool)(g:Nat)(ns:List Nd)(ks:List Int)(p':Nat)(bq:Value)(us:List aC),bn=LK∧mv = .bool more∧g≤f∧ks.length≤us.length∧us.length=ns.length ∧
  Hid ((more=true∧iW (ib g (deep+1) vs.length ns ks (ts.drop p')) (tN vs.length name)=some res)∨(more=false∧tN vs.length name ns ks (ts.drop p')=some res)) ∧
  Hid (us.map aC.n=ns)∧Hid (∀u∈us,∀j,u.bn.ownBlock=some j→w.heap.size≤j)∧Hid (∀u∈vs++us,∀j,u.bn.ownBlock=some j→bn.ownBlock≠some j) ∧
  Hid (Own (aI .i64) 3 wr w.heap.size bn ks)∧Hid (bY wr b tv ts p' (deep+1) bq (vs++us))∧Hid (Fr w wr b))
  (fun _ _ wr=>wQ b ts.length wr)
 case atStart =>
  have hr:=uM.o;refine⟨.slice none 0 0,_,f,[],[],p+1,nv,[],rfl,rfl,aj _,aj _,rfl, ?_,ae rfl,ae (by simp),ae (by intro u _ j _ e;cases e),ae (Own.nil _ _ _ _),by rw[fF];exact aY,dP⟩;refine ae ?_;cases hs:ax ⟨#[41]⟩ (ts.drop (p+1))
  · rw[hs,ag (by decide)]at hr
    exact .inl ⟨rfl,hr⟩
  · rw[hs,ah rfl]at hr
    exact .inr ⟨rfl,hr⟩
 case round =>
  clear HO uM bT dI HS2 dP aY;obtain⟨bn,more,g,ns,ks,p',bq,us,rfl,rfl,hg,hkl,AZ,HM,HU,HK,HJ,lJ,iV,HF⟩:=hrel;have kR:=iV.o.few;have hlt:=iV.o.lt;have tZ:=iV.o.cnt;have hlen:(vs++us).length=vs.length+us.length:=av;have FH:=ae (iV.o.wQ ts.length);cases more
  · have hK : tN vs.length name ns ks (ts.drop p')=some res:=by
     rcases HM.o with ⟨h1,_⟩|⟨_,h1⟩
     · cases h1
     · exact h1
    unfold tN at hK;have HC:=ae (Ug iV.o);cases hs:ax ⟨#[41]⟩ (ts.drop p')
    · rw[hs,ag (by decide)]at hK
      injection hK with hK;have HR:=ae hK.symm;rw[hs]at HC;clear hK hs HM;go_wp2_with (go_at_call 146;((with_reducible refine HC.o.mono ?_);rintro e w6 ⟨h1,⟨-,rfl⟩|⟨h2, -⟩⟩;rotate_left;cases h2;have ek:=ae (HF.o.trans h1);clear h1))
      go_ret;exact Out.err HR.o (.inl rfl) ek.o
    · rw [hs,ah rfl,List.tail_drop]at hK
      injection hK with hK;have HR:=ae hK.symm;rw[hs]at HC;clear hK hs HM
      obtain ⟨v,rf,hvk⟩:∃v:aC,v.n={ Nd.zero with kind:=7,text:=name,kids:=ks }∧v.bn=bn:=by
       rcases lJ.o.shape with ⟨rfl,rfl⟩|⟨g1,cap,rfl,_⟩
       · exact⟨⟨_,none⟩,rfl,rfl⟩
       · exact⟨⟨_,some (g1,cap)⟩,rfl,rfl⟩
      have kM:=ae rf;have nz:=ae hvk;clear rf hvk
      have ma:(∃g1 n1 cap,bn = .slice (some ⟨g1,0,none⟩) n1 cap)∨bn = .slice none 0 0:=by
       rcases lJ.o.shape with ⟨h1,_⟩|⟨g1,cap,h1,_⟩
       · exact .inr h1
       · exact .inl ⟨g1,_,cap,h1⟩
      rcases ma with ⟨g1,n1,cap,rfl⟩|rfl
      all_goals
       go_upto_region 15 with (go_at_call 146;((with_reducible refine HC.o.mono ?_);rintro e w6 ⟨h1,⟨h2, -⟩|⟨-,rfl,h3⟩⟩;cases h2;have ek:=ae (HF.o.trans h1);have Xg:=ae (lJ.o.fr h1 hbl (by decide));have dJ:=ae h3;clear h1 h3))
       have HA:=ae (show Calls Tryz.prog 118 #[.pointer (some ⟨b,0,none⟩),.agg #[.int .i64 7,.int .i64 0,.string name,.string ⟨#[]⟩,.int .i64 0,.int .i64 0,.bool false,.bool false,.string ⟨#[]⟩,.int .i64 0,.int .i64 0,.bool false,.bool false,_]] w6 _ from DZ dJ.o v (by rw[nz.o,kM.o];exact Xg.o.mono (by omega)) (by omega) _ nz.o { Nd.zero with kind:=7,text:=name,kids:=ks } kM.o);go_wp2_with (go_at_call 118;((with_reducible refine HA.o.mono ?_);rintro e w7 ⟨h1,rfl,Bh,h3⟩;have bX:=ae (ek.o.trans h1);have bC:=ae h3;clear h1 h3))
       go_ret;refine⟨bX.o,.inr ⟨_,_,_,HR.o,rfl,p'+1,Bh,us++[v],rfl, ?_, ?_,by rw[← bN];exact bC.o⟩⟩
       · rw[gP,HU.o,jM,List.map_nil,kM.o]
       · intro u hu j hj
         rcases dK.1 hu with hu|hu
         · exact HK.o u hu j hj
         · rw[fA.1 hu,nz.o]at hj
           exact(lJ.o.kP j hj).1
  · have hA:iW (ib g (deep+1) vs.length ns ks (ts.drop p')) (tN vs.length name)=some res:=by
     rcases HM.o with ⟨_,h1⟩|⟨h1,_⟩
     · exact h1
     · cases h1
    match g,hg,hA with
    | 0,_,hA=>unfold ib iW at hA;cases hA
    | g+1,hg,hA =>
    rw[o8,PQ]at hA;have jT:vs.length+ns.length=(vs++us).length:=by rw[hlen,AZ]
    rw[jT]at hA;rcases eG hA with ⟨c,h1,rfl⟩|⟨ms,a,r,h1,h2⟩
    · have HL:=ae (show Calls Tryz.prog 60 #[.pointer (some ⟨b,0,none⟩),.int .i64 0] wr (Out (.error c) wr b tv ts (deep+1) (vs++us))from rZ.o g (by omega) 0 (deep+1) _ wr b tv ts p' bq (vs++us) (by omega) iV.o h1)
      clear h1 hA HM;go_wp2_with (go_at_call 60;((with_reducible refine HL.o.mono ?_);intro e w5 ho;obtain⟨hf,hc,rfl⟩:=ho.bad rfl;have bg:=ae (HF.o.trans hf);have HC:=ae hc;have hc0:(c != 0)=true:=(by rw[bne_iff_ne];rcases hc with h|h <;> omega);clear hf hc ho))
      go_ret;exact Out.err rfl HC.o bg.o
    · have HL:=ae (show Calls Tryz.prog 60 #[.pointer (some ⟨b,0,none⟩),.int .i64 0] wr (Out (.ok (ms,a,r)) wr b tv ts (deep+1) (vs++us))from rZ.o g (by omega) 0 (deep+1) _ wr b tv ts p' bq (vs++us) (by omega) iV.o h1)
      have H1:=ae h1;have H2:=ae h2;clear h1 h2 hA HM;go_upto_region 11 with (go_at_call 60;((with_reducible refine HL.o.mono ?_);intro e w5 ho;obtain⟨hf,rfl,p5,oM,dN,lT,j6,hk5,iX⟩:=ho.sH rfl;have bg:=ae (HF.o.trans hf);have uJ:=ae (lJ.o.fr hf hbl (by decide));have aU:=ae iX;have HD5:=ae lT;have lh:=ae j6;have lg:=ae hk5;clear hf ho lT j6 hk5 iX))
      obtain⟨hc1,hc2,hc3⟩:=yZ H1.o HD5.o aU.o.lt;have GH:dN.length=ms.length:=by rw[← lh.o,eB]
      have Gu:((vs++us)++dN).length=vs.length+us.length+dN.length:=by rw[av,av]
      have FI:=ae (Ir aU.o a (by omega));have Lt:=bg.o.size;have X4:=ae HF.o.size
      have vY:=ae (show ∀u∈(vs++us)++dN,∀j,u.bn.ownBlock=some j→bn.ownBlock≠some j from by
       intro u hu j hj;rcases dK.1 hu with hu|hu
       · exact HJ.o u hu j hj
       · intro e
         have h3:=lg.o u hu j hj;have h4:=(lJ.o.kP j e).2.1;omega)
      clear HL lJ HJ
      go_upto_region 7 with (first
       | (go_at_call 119;((with_reducible refine FI.o.mono ?_);rintro e wn ⟨rfl,rfl⟩))
       | (at_builtin;refine C9 kv.o (aI .i64) rfl (.tmp 26) (.tmp 29) rfl w.heap.size bn ks rfl (uJ.o.alloc _) ⟨w5.heap.size,0,none⟩ 1 1 [(a:Int)] rfl rfl ?_ ?_ ?_ ?_ ?_;exact ic _ _ _ rfl;exact bO (Nat.mul_le_mul_left _ kz) (by omega);(unfold maxLen;omega);(simp <;> omega);intro ru w6 h1 h2 h3;have pY:=ae h1;have pX:=ae h2;have HAT:=ae h3;clear h1 h2 h3))
      have il:Below w5.heap.size w5 (w5.alloc (.cells #[.int .i64 (a:Int)] 3)):=(ak _ _).alloc (aj _) _;have vv:=uJ.o.alloc (.cells #[.int .i64 (a:Int)] 3)
      have dJ:=ae ((aU.o.below il).kids pX.o (by
       intro j e;obtain⟨q1,q2,cur,q3⟩:=vv.kP j e;refine⟨by omega, ?_,fun u hu e2=>vY.o u hu j e2 e⟩;rintro⟨Qf,fr,e2⟩;rw[q3]at e2;injection e2 with e2;injection e2 with _ e2;exact absurd e2 (by decide)))
      have ek:=ae ((bg.o.below il).row pX.o (by
       intro j e;obtain⟨q1,q2,cur,q3⟩:=vv.kP j e;exact⟨by omega,.inl q1⟩))
      have FB:=ae (show ∀u∈(vs++us)++dN,∀j,u.bn.ownBlock=some j→ru.ownBlock≠some j from by
       intro u hu j hj;rcases HAT.o with e|e
       · rw[e];exact vY.o u hu j hj
       · rw[e]
         have h4:=((aU.o.nodes.2 u hu).kP j hj).2.1;intro e2;injection e2 with e2;simp at e2;omega)
      have sD:=ae (MG dJ.o ⟨#[44]⟩);have h2:=H2.o;rw[← HD5.o]at h2;clear il vv pX HAT vY uJ HF iV H2 FI
      have Ee:∀u∈us++dN,∀j,u.bn.ownBlock=some j→w.heap.size≤j:=by
       intro u hu j hj;rcases dK.1 hu with hu|hu
       · exact HK.o u hu j hj
       · exact bO X4.o (lg.o u hu j hj)
      have Dv:=ae Ee;clear Ee;cases hs:ax ⟨#[44]⟩ (ts.drop p5)
      · rw [hs,ag (by decide)]at h2
        have HN:=ae (show tN vs.length name (ns++ms) (ks++[(a:Int)]) (ts.drop p5)=some res from h2);rw[hs,ag (by decide)]at sD;clear h2 hs;go_wp2_with (go_at_call 144;((with_reducible refine sD.o.mono ?_);rintro e w7 ⟨h1,rfl,h3⟩;have bX:=ae (ek.o.trans h1);have su:=ae (pY.o.fr h1 hbl (by decide));have bC:=ae h3;clear h1 h3))
        go_roundw
        case rel =>
         refine⟨ru,false,g,ns++ms,ks++[(a:Int)],p5,oM,us++dN,rfl,rfl,by omega,by rw[av,av,fE];omega,by rw[av,av];omega,ae (.inr ⟨rfl,HN.o⟩),ae (by rw[gP,HU.o,lh.o]),Dv, ?_,su, ?_,bX⟩
         · rw[← bN];exact FB
         · rw[← bN];exact bC
        case measure =>
         have h1:=bC.o.wQ ts.length;rw[FH.o,h1];omega
      · rw [hs,ah rfl,List.tail_drop]at h2
        have HN:=ae h2;have Rl:=Bt dJ.o hs;rw[hs,ah rfl]at sD;clear h2 hs;go_wp2_with (go_at_call 144;((with_reducible refine sD.o.mono ?_);rintro e w7 ⟨h1,rfl,h3⟩;have bX:=ae (ek.o.trans h1);have su:=ae (pY.o.fr h1 hbl (by decide));have bC:=ae h3;clear h1 h3))
        go_roundw
        case rel =>
         refine⟨ru,true,g,ns++ms,ks++[(a:Int)],p5+1,oM,us++dN,rfl,rfl,by omega,by rw[av,av,fE];omega,by rw[av,av];omega,ae (.inl ⟨rfl,HN.o⟩),ae (by rw[gP,HU.o,lh.o]),Dv, ?_,su, ?_,bX⟩
         · rw[← bN];exact FB
         · rw[← bN];exact bC
        case measure =>
         have h1:=bC.o.wQ ts.length;rw[FH.o,h1];omega
def I1 (f deep base:Nat)(name:ByteArray)(ts:List ai):Option eQ :=
 if name=⟨#[84,82,85,69]⟩then some (.ok ([{ Nd.zero with kind:=3,num:=1 }],base,ts))
 else if name=⟨#[70,65,76,83,69]⟩then some (.ok ([{ Nd.zero with kind:=3 }],base,ts))
 else if ax ⟨#[40]⟩ ts=true then Ce f deep base name ts else some (.error 5)
theorem zR (name c:ByteArray):(name.toList == c.toList)=decide (name=c):=by
 by_cases h:name=c
 · rw[h,aQ rfl];simp
 · rw[aS h];exact aA.2 (rM _ _ h)
theorem G8:(⟨#[84,82,85,69]⟩:ByteArray).toList=[84,82,85,69]:=by rw[rz]
theorem G7:(⟨#[70,65,76,83,69]⟩:ByteArray).toList=[70,65,76,83,69]:=by rw[rz]
theorem ae0 (f:Nat)(IH:∀g,g≤f→yz g)(name:ByteArray){w:World}{b:Nat}{tv:Value}{ts:List ai}{p deep:Nat}{nv:Value}{vs:List aC}(h:bY w b tv ts p deep nv vs)(hnx:p+1<ts.length)(res:eQ)(au:I1 f deep vs.length name (ts.drop (p+1))=some res) :
 Calls Tryz.prog 122 #[.pointer (some ⟨b,0,none⟩),.string name] w (Out res w b tv ts deep vs):=by
 unfold I1 at au;have q1:=zR name ⟨#[84,82,85,69]⟩;have q2:=zR name ⟨#[70,65,76,83,69]⟩;rw[G8]at q1;rw[G7]at q2;by_cases h1:name=⟨#[84,82,85,69]⟩
 · rw[aQ h1]at q1
   rw[ah h1]at au;injection au with au;have HR:=ae au.symm;have HA:=ae (show Calls Tryz.prog 120 #[.pointer (some ⟨b,0,none⟩),.agg #[.int .i64 3,.int .i64 1,.string ⟨#[]⟩,.string ⟨#[]⟩,.int .i64 0,.int .i64 0,.bool false,.bool false,.string ⟨#[]⟩,.int .i64 0,.int .i64 0,.bool false,.bool false,.slice none 0 0]] w _ from Cv h hnx { Nd.zero with kind:=3,num:=1 } rfl);clear au h h1 q2;go_enter Tryz.func122,Tryz.ntmps122;go_wp2_with (go_at_call 120;((with_reducible refine HA.o.mono ?_);rintro e w7 ⟨h1,rfl,bq,h3⟩;have bX:=ae h1;have bC:=ae h3;clear h1 h3))
   go_ret;exact Out.leaf HR.o bX.o rfl bC.o
 rw[aS h1]at q1;rw[ag h1]at au;by_cases h2:name=⟨#[70,65,76,83,69]⟩
 · rw[aQ h2]at q2
   rw[ah h2]at au;injection au with au;have HR:=ae au.symm;have HA:=ae (show Calls Tryz.prog 120 #[.pointer (some ⟨b,0,none⟩),.agg #[.int .i64 3,.int .i64 0,.string ⟨#[]⟩,.string ⟨#[]⟩,.int .i64 0,.int .i64 0,.bool false,.bool false,.string ⟨#[]⟩,.int .i64 0,.int .i64 0,.bool false,.bool false,.slice none 0 0]] w _ from Cv h hnx { Nd.zero with kind:=3 } rfl);clear au h h1 h2;go_enter Tryz.func122,Tryz.ntmps122;go_wp2_with (go_at_call 120;((with_reducible refine HA.o.mono ?_);rintro e w7 ⟨h1,rfl,bq,h3⟩;have bX:=ae h1;have bC:=ae h3;clear h1 h3))
   go_ret;exact Out.leaf HR.o bX.o rfl bC.o
 rw[aS h2]at q2;rw[ag h2]at au;obtain⟨c0,c1,c2,c3⟩:=h.facts;have f1:=h.frozen 1;have kR:=h.few;have HP:=ae h;clear c0 c2 c3 h1 h2 h;have bG:=ae (HP.o.next hnx);have kK:=ae ((Fr.refl w b).setCell 1 (.int .i64 ((p:Int)+1)));cases hs:ax ⟨#[40]⟩ (ts.drop (p+1))
 · rw[hs,ag (by decide)]at au
   injection au with au;have HR:=ae au.symm;have HS:=A8 bG.o ⟨#[40]⟩;rw[hs]at HS;have HS:=ae HS;clear au hs;go_enter Tryz.func122,Tryz.ntmps122;go_upto_region 7 with (fail)
   generalize w.setCell ⟨b,1,none⟩ (.int .i64 ((p:Int)+1))=w1 at bG kK HS ⊢;go_wp2_with (go_at_call 116;((with_reducible refine HS.o.mono ?_);rintro e w2 ⟨rfl,h1⟩;have bT:=ae (kK.o.below h1);clear h1))
   go_ret;exact Out.err HR.o (.inl rfl) bT.o
 · rw [hs,ah rfl]at au
   have uM:=ae au;have La:=Bt bG.o hs;have HS:=A8 bG.o ⟨#[40]⟩;rw[hs]at HS;have HS:=ae HS;have rZ:=ae IH;clear au hs IH;go_enter Tryz.func122,Tryz.ntmps122;go_upto_region 7 with (fail)
   generalize w.setCell ⟨b,1,none⟩ (.int .i64 ((p:Int)+1))=w1 at bG kK HS ⊢
   go_wp2_with (first
    | (go_at_call 116;((with_reducible refine HS.o.mono ?_);rintro e w2 ⟨rfl,h1⟩;have bT:=ae (kK.o.below h1);have Ji:=ae (YS f rZ.o name (bG.o.below h1) La res uM.o);clear h1))
    | (go_at_call 145;((with_reducible refine Ji.o.mono ?_);intro e w3 ho;have oF:=ae ho;obtain⟨c,rfl⟩:=ho.ret;clear ho)))
   go_ret;obtain⟨hf,h2⟩:=oF.o;refine⟨bT.o.trans hf,h2.imp id ?_⟩;rintro⟨ms,a,r,g1,g2,p',bq,us,g3,g4,g5,g6⟩;exact⟨ms,a,r,g1,g2,p',bq,us,g3,g4,fun u hu j hj=>bO bT.o.size (g5 u hu j hj),g6⟩
theorem Out.from {res:eQ}{w w2 w3:World}{b:Nat}{tv:Value}{ts:List ai}{deep:Nat}{vs:List aC}{e:Ending}(hf:Fr w w2 b)(h:Out res w2 b tv ts deep vs e w3):Out res w b tv ts deep vs e w3:=by
 refine⟨hf.trans h.1,h.2.imp id ?_⟩;rintro⟨ms,a,r,g1,g2,p',bq,us,g3,g4,g5,g6⟩;exact⟨ms,a,r,g1,g2,p',bq,us,g3,g4,fun u hu j hj=>bO hf.size (g5 u hu j hj),g6⟩
theorem EW {s:ByteArray}{t:ai}{ts:List ai}(h:¬ t.kind=5):ax s (t :: ts)=false:=by
 show(decide (t.kind=5)&&decide (t.text=s))=false;rw[aS h];rfl
theorem aeQ (f:Nat)(IH:∀g,g≤f→yz g){w:World}{b:Nat}{tv:Value}{ts:List ai}{p deep:Nat}{nv:Value}{vs:List aC}(h:bY w b tv ts p deep nv vs)(res:eQ)(au:jB (f+1) deep vs.length (ts.drop p)=some res) :
 Calls Tryz.prog 91 #[.pointer (some ⟨b,0,none⟩)] w (Out res w b tv ts deep vs):=by
 obtain⟨g,cap,t, -,ht,hd, -⟩:=h.tok;have aR:=ae (H8 h t ht);have HP:=ae h;have hbl:=h.blt;rw[hd,lX]at au;go_enter Tryz.func91,Tryz.ntmps91;go_upto_region 2 with (go_at_call 61;((with_reducible refine aR.o.mono ?_);rintro e w1 ⟨rfl,h1⟩;have HB:=ae h1;clear h1))
 have hB3:Below w1.heap.size w1 (w1.alloc (.cells #[.int .i64 t.kind,.string t.text,.int .i64 t.num,.string t.sh,.int .i64 t.c,.int .i64 t.r,.bool t.ac,.bool t.ar,.int .i64 t.pos] 71)):=(ak _ _).alloc (aj _) _;have aF:aG (w1.alloc (.cells #[.int .i64 t.kind,.string t.text,.int .i64 t.num,.string t.sh,.int .i64 t.c,.int .i64 t.r,.bool t.ac,.bool t.ar,.int .i64 t.pos] 71)) w1.heap.size t:=aG.new w1 t;have HB3:=ae (HB.o.trans (hB3.mono HB.o.size));clear hB3 HB;generalize hb4:w1.heap.size=b4 at aF ⊢;generalize w1.alloc (.cells #[.int .i64 t.kind,.string t.text,.int .i64 t.num,.string t.sh,.int .i64 t.c,.int .i64 t.r,.bool t.ac,.bool t.ar,.int .i64 t.pos] 71)=w3 at aF HB3 ⊢;clear hb4 aR;obtain⟨x0,x1,x2,x3,x4,x5,x6,x7,ay⟩:=aF.cells;clear aF;have aY:=ae (HP.o.below HB3.o);have dP:=ae (Fr.of b HB3.o);obtain⟨kd,hkd⟩:∃kd,t.kind=kd:=⟨_,rfl⟩;by_cases k1:t.kind=1
 · have hnx:=h.fit.next ht (by omega)
   rw[EW (by omega),ag (by decide),ah k1]at au;injection au with au;have HR:=ae au.symm;have HA:=ae (show Calls Tryz.prog 120 #[.pointer (some ⟨b,0,none⟩),.agg #[.int .i64 1,.int .i64 t.num,.string ⟨#[]⟩,.string ⟨#[]⟩,.int .i64 0,.int .i64 0,.bool false,.bool false,.string ⟨#[]⟩,.int .i64 0,.int .i64 0,.bool false,.bool false,.slice none 0 0]] w3 _ from Cv aY.o hnx { Nd.zero with kind:=1,num:=t.num } rfl);have e1:(kd == 1)=true:=bA.2 (by omega);rw[hkd]at x0;clear au hd ht k1 hkd h;go_wp2_with (go_at_call 120;((with_reducible refine HA.o.mono ?_);rintro e w7 ⟨h1,rfl,bq,h3⟩;have bX:=ae (dP.o.trans h1);have bC:=ae h3;clear h1 h3))
   go_ret;exact Out.leaf HR.o bX.o rfl bC.o
 have e1:(kd == 1)=false:=aA.2 (by omega);by_cases k2:t.kind=2
 · have hnx:=h.fit.next ht (by omega)
   rw[EW (by omega),ag (by decide),ag k1,ah k2]at au;injection au with au;have HR:=ae au.symm;have HA:=ae (show Calls Tryz.prog 120 #[.pointer (some ⟨b,0,none⟩),.agg #[.int .i64 2,.int .i64 0,.string t.text,.string ⟨#[]⟩,.int .i64 0,.int .i64 0,.bool false,.bool false,.string ⟨#[]⟩,.int .i64 0,.int .i64 0,.bool false,.bool false,.slice none 0 0]] w3 _ from Cv aY.o hnx { Nd.zero with kind:=2,text:=t.text } rfl);have e2:(kd == 2)=true:=bA.2 (by omega);rw[hkd]at x0;clear au hd ht k1 k2 hkd h;go_wp2_with (go_at_call 120;((with_reducible refine HA.o.mono ?_);rintro e w7 ⟨h1,rfl,bq,h3⟩;have bX:=ae (dP.o.trans h1);have bC:=ae h3;clear h1 h3))
   go_ret;exact Out.leaf HR.o bX.o rfl bC.o
 have e2:(kd == 2)=false:=aA.2 (by omega);by_cases k6:t.kind=6
 · have hnx:=h.fit.next ht (by omega)
   rw[EW (by omega),ag (by decide),ag k1,ag k2,ah k6]at au;injection au with au;have HR:=ae au.symm;have HA:=ae (show Calls Tryz.prog 120 #[.pointer (some ⟨b,0,none⟩),.agg #[.int .i64 4,.int .i64 0,.string ⟨#[]⟩,.string ⟨#[]⟩,.int .i64 0,.int .i64 0,.bool false,.bool false,.string ⟨#[]⟩,.int .i64 0,.int .i64 0,.bool false,.bool false,.slice none 0 0]] w3 _ from Cv aY.o hnx { Nd.zero with kind:=4 } rfl);have e6:(kd == 6)=true:=bA.2 (by omega);rw[hkd]at x0;clear au hd ht k1 k2 k6 hkd h;go_wp2_with (go_at_call 120;((with_reducible refine HA.o.mono ?_);rintro e w7 ⟨h1,rfl,bq,h3⟩;have bX:=ae (dP.o.trans h1);have bC:=ae h3;clear h1 h3))
   go_ret;exact Out.leaf HR.o bX.o rfl bC.o
 have e6:(kd == 6)=false:=aA.2 (by omega);by_cases k4:t.kind=4
 · have hnx:=h.fit.next ht (by omega)
   rw[EW (by omega),ag (by decide),ag k1,ag k2,ag k6,ah k4]at au;injection au with au;have HA:=ae (aeI aY.o t hnx vs.length);rw[au]at HA;have e4:(kd == 4)=true:=bA.2 (by omega);rw[hkd]at x0;clear au hd ht k1 k2 k6 k4 hkd h;go_wp2_with (go_at_call 121;((with_reducible refine HA.o.mono ?_);intro e w7 ho;have oF:=ae (Out.from dP.o ho);obtain⟨c,rfl⟩:=ho.ret;clear ho))
   go_ret;exact oF.o
 have e4:(kd == 4)=false:=aA.2 (by omega);by_cases k3:t.kind=3
 · have hnx:=h.fit.next ht (by omega)
   rw[EW (by omega),ag (by decide),ag k1,ag k2,ag k6,ag k4,ah k3]at au;have HA:=ae (ae0 f IH t.text aY.o hnx res au);have e3:(kd == 3)=true:=bA.2 (by omega);rw[hkd]at x0;clear au hd ht k1 k2 k6 k4 k3 hkd h IH;go_wp2_with (go_at_call 122;((with_reducible refine HA.o.mono ?_);intro e w7 ho;have oF:=ae (Out.from dP.o ho);obtain⟨c,rfl⟩:=ho.ret;clear ho))
   go_ret;exact oF.o
 have e3:(kd == 3)=false:=aA.2 (by omega)
 have hb:Gd f deep vs.length (ts.drop p)=some res:=by
  unfold Gd;rw[hd];by_cases c:ax ⟨#[40]⟩ (t :: ts.drop (p+1))=true
  · rw[ah c]at au ⊢;exact au
  · rw[ag c,ag k1,ag k2,ag k6,ag k4,ag k3]at au
    rw[ag c];exact au
 have HA:=ae (abK f (IH f (aj _)) aY.o res hb);rw[hkd]at x0;clear au hd ht k1 k2 k6 k4 k3 hkd h IH hb;go_wp2_with (go_at_call 123;((with_reducible refine HA.o.mono ?_);intro e w7 ho;have oF:=ae (Out.from dP.o ho);obtain⟨c,rfl⟩:=ho.ret;clear ho))
 go_ret;exact oF.o
theorem air (f:Nat)(IH:∀g,g≤f→yz g){w:World}{b:Nat}{tv:Value}{ts:List ai}{p deep:Nat}{nv:Value}{vs:List aC}(h:bY w b tv ts p deep nv vs)(res:eQ)(au:eU (f+1) 4 deep vs.length (ts.drop p)=some res) :
 Calls Tryz.prog 90 #[.pointer (some ⟨b,0,none⟩)] w (Out res w b tv ts deep vs):=by
 have HS:=ae (A8 h ⟨#[45]⟩);rw[lQ,ag (by omega)]at au;have HP:=ae h;cases hq:ax ⟨#[45]⟩ (ts.drop p)
 · rw [hq,ag (by decide)]at au
   rw[hq]at HS
   match f,IH,au with
   | 0,_,au=>unfold jB at au;cases au
   | f+1,IH,au =>
   have HL:=ae (fun w1 (hb:Below w.heap.size w w1)=>LP b 5 (by omega) w1 (Out res w b tv ts deep vs) (fun e w' ho=>ho.ret) (fun w2 hb2=>by
    rw[lv5];exact(aeQ f (fun g hg=>IH g (by omega)) (HP.o.below (hb.trans (hb2.mono hb.size))) res au).mono fun e w3 ho=>Out.from (Fr.of b (hb.trans (hb2.mono hb.size))) ho))
   clear hq au h IH;go_enter Tryz.func90,Tryz.ntmps90
   go_wp2_with (first
    | (go_at_call 116;((with_reducible refine HS.o.mono ?_);rintro e w1 ⟨rfl,h1⟩;have yI:=ae (show Calls Tryz.prog 60 #[.pointer (some ⟨b,0,none⟩),.int .i64 5] w1 (Out res w b tv ts deep vs)from HL.o w1 h1);clear h1))
    | (go_at_call 60;((with_reducible refine yI.o.mono ?_);intro e w2 ho;have oF:=ae ho;obtain⟨c,rfl⟩:=ho.ret;clear ho)))
   go_ret;exact oF.o
 · have hnx := Bt h hq
   rw[hq,ah rfl]at au;rw[hq]at HS;by_cases hd:12≤deep
   · rw [ah hd]at au
     injection au with au;have HR:=ae au.symm;clear hq au h IH;go_enter Tryz.func90,Tryz.ntmps90
     go_wp2_with (first
      | (go_at_call 116;((with_reducible refine HS.o.mono ?_);rintro e w1 ⟨rfl,h1⟩;have kK:=ae (Fr.of b h1);have fZ:=ae (zy (HP.o.below h1) hnx);clear h1))
      | (go_at_call 117;((with_reducible refine fZ.o.mono ?_);rintro e w2 ⟨h1,⟨-,rfl⟩|⟨h2, -⟩⟩;rotate_left;exact absurd hd h2;have bT:=ae (kK.o.trans h1);clear h1)))
     go_ret;exact Out.err HR.o (.inr rfl) bT.o
   · rw [ag hd,List.tail_drop]at au
     rcases eG au with ⟨c,h1,rfl⟩|⟨ns,a,r,h1,h2⟩
     · have HI:=ae (fun w2 hps=>IH f (aj _) 4 (deep+1) _ w2 b tv ts (p+1) nv vs (by omega) hps h1)
       clear hq au h IH h1;go_enter Tryz.func90,Tryz.ntmps90
       go_wp2_with (first
        | (go_at_call 116;((with_reducible refine HS.o.mono ?_);rintro e w1 ⟨rfl,h1⟩;have kK:=ae (Fr.of b h1);have fZ:=ae (zy (HP.o.below h1) hnx);clear h1))
        | (go_at_call 117;((with_reducible refine fZ.o.mono ?_);rintro e w2 ⟨h1,⟨h2, -⟩|⟨-,rfl,h3⟩⟩;exact absurd h2 hd;have bT:=ae (kK.o.trans h1);have HL:=ae (show Calls Tryz.prog 60 #[.pointer (some ⟨b,0,none⟩),.int .i64 4] w2 (Out (.error c) w2 b tv ts (deep+1) vs)from HI.o w2 h3);clear h1 h3))
        | (go_at_call 60;((with_reducible refine HL.o.mono ?_);intro e w5 ho;obtain⟨hf,hc,rfl⟩:=ho.bad rfl;have bg:=ae (bT.o.trans hf);have HC:=ae hc;have hc0:(c != 0)=true:=(by rw[bne_iff_ne];rcases hc with h|h <;> omega);clear hf hc ho)))
       go_ret;exact Out.err rfl HC.o bg.o
     · have HI:=ae (fun w2 hps=>IH f (aj _) 4 (deep+1) _ w2 b tv ts (p+1) nv vs (by omega) hps h1)
       have H1:=ae h1;injection h2 with h2;have HR:=ae h2.symm;have hcn:=h.cnt;have abe:deep≤12:=by omega
       clear hq au h IH h1 h2;go_enter Tryz.func90,Tryz.ntmps90
       go_upto_region 9 with (first
        | (go_at_call 116;((with_reducible refine HS.o.mono ?_);rintro e w1 ⟨rfl,h1⟩;have kK:=ae (Fr.of b h1);have fZ:=ae (zy (HP.o.below h1) hnx);clear h1))
        | (go_at_call 117;((with_reducible refine fZ.o.mono ?_);rintro e w2 ⟨h1,⟨h2, -⟩|⟨-,rfl,h3⟩⟩;exact absurd h2 hd;have bT:=ae (kK.o.trans h1);have HL:=ae (show Calls Tryz.prog 60 #[.pointer (some ⟨b,0,none⟩),.int .i64 4] w2 (Out (.ok (ns,a,r)) w2 b tv ts (deep+1) vs)from HI.o w2 h3);clear h1 h3))
        | (go_at_call 60;((with_reducible refine HL.o.mono ?_);intro e w5 ho;obtain⟨hf,rfl,p5,oM,dN,lT,j6,hk5,iX⟩:=ho.sH rfl;have bg:=ae (bT.o.trans hf);have aU:=ae iX;have HD5:=ae lT;have lh:=ae j6;have lg:=ae hk5;clear hf ho lT j6 hk5 iX)))
       have hz:=bT.o.size;obtain⟨c0,c1,c2,c3⟩:=aU.o.facts;have f2:=aU.o.frozen 2;rw[show((deep+1:Nat):Int)=(deep:Int)+1 from rfl]at c2;clear c0 c1 c3;go_upto_region 10 with (fail)
       have dJ:=ae (aU.o.qD deep abe);have ek:=ae (bg.o.setCell 2 (.int .i64 (deep:Int)));have o5:=ae (show(w5.setCell ⟨b,2,none⟩ (.int .i64 (deep:Int))).heap.size=w5.heap.size by simp);obtain⟨hc1,hc2,hc3⟩:=yZ H1.o HD5.o aU.o.lt;have ajz:=bg.o.size;clear c2 f2 aU bg HL;generalize w5.setCell ⟨b,2,none⟩ (.int .i64 (deep:Int))=w6 at dJ ek o5 ⊢;have GH:dN.length=ns.length:=by rw[← lh.o,eB]
       have Gu:(vs++dN).length=vs.length+dN.length:=av;have Xw:=ae (Ir dJ.o a (by omega));have hbl:=dJ.o.blt;have KR:Below w6.heap.size w6 (w6.alloc (.cells #[.int .i64 (a:Int)] 3)):=(ak _ _).alloc (aj _) _;have bC:=ae (dJ.o.below KR);have bX:=ae (ek.o.below KR);have HA:=ae (show Calls Tryz.prog 118 #[.pointer (some ⟨b,0,none⟩),.agg #[.int .i64 8,.int .i64 0,.string ⟨#[]⟩,.string ⟨#[]⟩,.int .i64 0,.int .i64 0,.bool false,.bool false,.string ⟨#[]⟩,.int .i64 0,.int .i64 0,.bool false,.bool false,.slice (some ⟨w6.heap.size,0,none⟩) 1 1]] (w6.alloc (.cells #[.int .i64 (a:Int)] 3)) _ from DZ bC.o ⟨{ Nd.zero with kind:=8,kids:=[(a:Int)] },some (w6.heap.size,1)⟩ (HY w6 (b+1) (a:Int) (by omega)) (by omega) (.slice (some ⟨w6.heap.size,0,none⟩) 1 1) rfl { Nd.zero with kind:=8,kids:=[(a:Int)] } rfl);clear KR
       go_wp2_with (first
        | (go_at_call 119;((with_reducible refine Xw.o.mono ?_);rintro e wn ⟨rfl,rfl⟩))
        | (go_at_call 118;((with_reducible refine HA.o.mono ?_);rintro e w8 ⟨h1,rfl,zt,h3⟩;have ng:=ae (bX.o.trans h1);have l6:=ae h3;clear h1 h3)))
       go_ret;refine⟨ng.o,.inr ⟨_,_,_,HR.o,rfl,p5,zt,dN++[⟨{ Nd.zero with kind:=8,kids:=[(a:Int)] },some (w6.heap.size,1)⟩],HD5.o, ?_, ?_,by rw[← bN];exact l6.o⟩⟩
       · rw[gP,lh.o];rfl
       · intro u hu j hj
         rcases dK.1 hu with hu|hu
         · exact bO hz (lg.o u hu j hj)
         · rw[fA.1 hu]at hj
           have hj:some w6.heap.size=some j:=hj;injection hj with hj;have:=o5.o;omega
theorem Qs:∀F:Nat,yz F:=by
 intro F
 induction F using Nat.strongRecOn with
 | _ F ih =>
   intro n deep res w b tv ts p nv vs hn h au
   match F,ih,au with
   | 0,_,au=>unfold eU at au;cases au
   | f+1,ih,au =>
   have IH:∀g,g≤f→yz g:=fun g hg=>ih g (by omega)
   by_cases h3:n≤3
   · rw[lQ,ah h3]at au
     exact acR b w _ (fun e w' ho=>ho.ret) n h3 fun w' hb=>(af5 f IH n h3 (h.below hb) res au).mono fun e w'' ho=>Out.from (Fr.of b hb) ho
   · have e4:n=4:=by omega
     subst e4;refine LP b 4 (by omega) w _ (fun e w' ho=>ho.ret) fun w' hb => ?_
     rw[lv4];exact(air f IH (h.below hb) res au).mono fun e w'' ho=>Out.from (Fr.of b hb) ho
end Go.Proofs.YtaobhjliflomaaaGreatDoor
