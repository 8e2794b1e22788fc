import Derived.Test.YtaobhjliflomaaaGreatDoorMT2
set_option maxRecDepth 100000
set_option maxHeartbeats 64000000
namespace Go.Proofs.YtaobhjliflomaaaGreatDoor
open Go.RowKit
theorem U5 (l ds:List Int)(h:l.takeWhile isWord=ds):l7 l=match gH (strOfNums ds)with
 | some d=>some ({ ag.zero with kind:=4,sh:=d.sh,c:=d.c,r:=d.r,ac:=d.ac,ar:=d.ar },ds.length)
 | none=>if jb ds=true then some ({ ag.zero with kind:=3,text:=strOfNums ds },ds.length)else none:=by subst h;rfl
theorem ahy (b:Nat)(s:ByteArray)(k:Nat)(w:World)(h:bL w b s k)(_hs:s.size≤1000000)(_hk:k<s.size)(hd:nk ((s[k].toNat:Nat):Int)=true) :
 Calls Tryz.prog 141 #[.pointer (some ⟨b,0,none⟩)] w (oh (l7 (aA s k)) b s k w):=by
 have hlt:=h.lt;have hw0:w.heap.size≠b:=by omega
 obtain⟨ds,hds⟩:∃ds,(aA s k).takeWhile isWord=ds:=⟨_,rfl⟩;obtain⟨D,hD⟩:∃D,strOfNums ds=D:=⟨_,rfl⟩;have hbd:Bytes ds:=fun x hx=>LH s k x (by rw[← hds]at hx;exact(List.takeWhile_prefix _).subset hx)
 have sJ:sb D=ds:=by rw[← hD];exact jd ds hbd
 have aaq:D.size=ds.length:=by rw[← aV,sJ]
 have hlen:ds.length≤s.size:=by rw[← hds];have h0:=Al isWord (aA s k);rw[ny]at h0;omega
 have hW:=(ahv b s k _ h.tok _hs (by omega)).mono (R':=fun e w'=>(w.alloc (.cells jF 71)).grownBy w' (some b)∧e = .returned (.string D)∧bL w' b s (k+ds.length)) (fun e w' ⟨x1,x2,x3⟩=>⟨x1,by rw[x2,hds,hD],by rw[hds]at x3;exact x3⟩);have HW:=ae hW;clear hW h;have aU:=ae (Bu w b);have aM:=ae (aC.zero w);have hN:=U5 (aA s k) ds hds;rw[hD]at hN
 have hhd:ds.head? = some ((s[k].toNat:Nat):Int):=by
  have h0:=yC s k 0 (by omega);rw[← hds];cases hr:aA s k with
  | nil=>rw[hr]at h0;simp at h0
  | cons x l =>
    rw[hr]at h0;simp at h0;have hwd:isWord x=true:=by rw[FP,h0,hd];rfl
    rw[List.takeWhile_cons,hwd];simp[h0]
 rw[← acT hhd hd]at hN;have hmx:D.size≤1000000:=by omega
 clear hhd hd hbd hds hlen hD;cases hq:gH D with
 | some d =>
   rw[hq]at hN;have HN:=ae hN;clear hN;have hsz:d.sh.size≤12:=(xh D d hq).1;have oU:=ae (fun (e:Ending)(he:mV (sb D) e)=>GR hq he);clear hq sJ;go_enter Tryz.func141,Tryz.ntmps141
   go_upto_region 4 with (first
    | (go_at_call 112;((with_reducible refine HW.o.mono ?_);rintro e w1 ⟨h1,rfl,h2⟩;have H1:=ae h1;have H2:=ae h2;clear h1 h2))
    | (go_at_call 159;((with_reducible refine(Tf D _ ?_).mono ?_);(first|omega|skip);rintro e w2 ⟨h1,h2⟩;obtain rfl:=oU.o e h1;clear h1;have H3:=ae h2;clear h2;have HL2:=ae (H2.o.below H3.o H2.o.lt);have HT2:=ae ((aM.o.grown H1.o hw0).below H3.o (aM.o.grown H1.o hw0).lt);have kE:=HT2.o.lt;have vN:w.heap.size≠w2.heap.size:=Nat.ne_of_lt kE;obtain⟨x0,x1,x2,x3,x4,x5,x6,x7,av⟩:=HT2.o.cells;obtain⟨f0,f1,f2,f3,f4,f5,f6,f7,f8⟩:=HT2.o.bH)))
   have uD:=bU.new w2 d.sh d.c d.r d.ac d.ar;have hB3:Below w2.heap.size w2 (w2.alloc (.cells #[.string d.sh,.int .i64 d.c,.int .i64 d.r,.bool d.ac,.bool d.ar] 43)):=(ai _ _).alloc (ah _) _;have xH:=ae (HL2.o.below hB3 HL2.o.lt);have HT3:=ae (HT2.o.below hB3 HT2.o.lt);have eQ:=ae (grownBy.below' (grownBy.below' (grownBy.trans' aU.o H1.o) H3.o) hB3);clear x0 x1 x2 x3 x4 x5 x6 x7 av f0 f1 f2 f3 f4 f5 f6 f7 f8 hB3;generalize w2.alloc (.cells #[.string d.sh,.int .i64 d.c,.int .i64 d.r,.bool d.ac,.bool d.ar] 43)=w3 at uD xH HT3 eQ ⊢;obtain⟨x0,x1,x2,x3,x4,x5,x6,x7,av⟩:=HT3.o.cells;obtain⟨f0,f1,f2,f3,f4,f5,f6,f7,f8⟩:=HT3.o.bH;obtain⟨y0,y1,y2,y3,y4⟩:=uD.facts;clear uD;go_wp2_with fail
   exact bodyPost_ret (oI (HT3.o.gY { ag.zero with kind:=4,sh:=d.sh,c:=d.c,r:=d.r,ac:=d.ac,ar:=d.ar }) _ _ true 2 3 LG rfl rfl) rfl ⟨grownBy.j4 eQ.o (ah _) _ _ _ _ _ _ _ _ _,.inl ⟨_,_,HN.o,rfl,xH.o.j4 hw0 _ _ _ _ _ _ _ _ _⟩⟩
 | none =>
   rw[hq]at hN;have oU:=ae (fun (e:Ending)(he:mV (sb D) e)=>GQ hq he);clear hq;cases hnm:wZ ds
   all_goals
    rw[hnm]at hN;have HN:=ae hN;clear hN;have Cv:=ae (show wZ (sb D)=_ by rw[sJ,hnm]);clear hnm sJ;go_enter Tryz.func141,Tryz.ntmps141
    go_upto_region 5 with (first
     | (go_at_call 112;((with_reducible refine HW.o.mono ?_);rintro e w1 ⟨h1,rfl,h2⟩;have H1:=ae h1;have H2:=ae h2;clear h1 h2))
     | (go_at_call 159;((with_reducible refine(Tf D _ ?_).mono ?_);(first|omega|skip);rintro e w2 ⟨h1,h2⟩;obtain rfl:=oU.o e h1;clear h1;have H3:=ae h2;clear h2;have HL2:=ae (H2.o.below H3.o H2.o.lt);have HT2:=ae ((aM.o.grown H1.o hw0).below H3.o (aM.o.grown H1.o hw0).lt))))
    have hB3:Below w2.heap.size w2 (w2.alloc (.cells #[.string ⟨#[]⟩,.int .i64 0,.int .i64 0,.bool false,.bool false] 43)):=(ai _ _).alloc (ah _) _;have xH:=ae (HL2.o.below hB3 HL2.o.lt);have HT3:=ae (HT2.o.below hB3 HT2.o.lt);have eQ:=ae (grownBy.below' (grownBy.below' (grownBy.trans' aU.o H1.o) H3.o) hB3);clear hB3;generalize w2.alloc (.cells #[.string ⟨#[]⟩,.int .i64 0,.int .i64 0,.bool false,.bool false] 43)=w3 at xH HT3 eQ ⊢;obtain⟨x0,x1,x2,x3,x4,x5,x6,x7,av⟩:=HT3.o.cells;obtain⟨f0,f1,f2,f3,f4,f5,f6,f7,f8⟩:=HT3.o.bH;go_wp2_with (go_at_call 160;((with_reducible refine(aaM D _ ?_).mono ?_);(first|omega|skip);rintro e w4 ⟨rfl,rfl⟩;rw[Cv.o]))
   · exact bodyPost_ret (oI (HT3.o.gY { ag.zero with kind:=3,text:=D }) _ _ false 2 3 LG rfl rfl) rfl ⟨grownBy.j4 eQ.o (ah _) _ _ _ _ _ _ _ _ _,.inr ⟨HN.o,{ ag.zero with kind:=3,text:=D },rfl⟩⟩
   · exact bodyPost_ret (oI (HT3.o.gY { ag.zero with kind:=3,text:=D }) _ _ true 2 3 LG rfl rfl) rfl ⟨grownBy.j4 eQ.o (ah _) _ _ _ _ _ _ _ _ _,.inl ⟨_,_,HN.o,rfl,xH.o.j4 hw0 _ _ _ _ _ _ _ _ _⟩⟩
theorem afc {P:Program}{w:World}(t e:TypeId)(n:Nat)(cs:Array Value)(k:Nat)(v:Value)(d:TypeDesc)(h:P.underlying t=some (.array n e))(he:P.underlying e=some d)(hd:(match d with | .struct _ | .array _ _=>true|_=>false)=false)
 (hsz:(P.info? e).map (·.size)=some 1) (hk:k<n) (hv:cs[k]? = some v):(Instr.index t (.agg cs) (.int .i64 (k:Int))).run P w = .ok v w:=by
 have h1:(0:Int)≤(k:Int)∧(k:Int)<(n:Int):=by omega
 cases hq:P.info? e with
 | none=>simp[hq]at hsz
 | some i =>
   have hs':i.size=1:=by simp[hq]at hsz;exact hsz
   simp[Instr.index,run_underlying h,asIntOf,h1,sizeOf,typeInfo,hq,hs',part,isAgg,run_underlying he,hv,go_sem];cases d <;> simp_all
theorem U7 {P:Program}{ops:Array Oper}{rest:List Oper}{op:Oper}{a:Act}{w:World}{Q:Exit→Act→World→Prop}(hgd:op.guard=none)(t e:TypeId)(n:Nat)(x y:Operand)(ho:op.op = .index t x y)
 (cs:Array Value) (k:Nat) (v:Value) (d:TypeDesc) (h:P.underlying t=some (.array n e)) (he:P.underlying e=some d) (hd:(match d with | .struct _ | .array _ _=>true|_=>false)=false)
 (hsz:(P.info? e).map (·.size)=some 1) (hx:a.eval x = .agg cs) (hy:a.eval y = .int .i64 (k:Int)) (hk:k<n) (hv:cs[k]? = some v)
 (hh:wpList P ops Q rest (a.put op.dst v) w):wpList P ops Q (op :: rest) a w :=
 wpList_plain hgd fun _ hK=>by
  unfold Oper.wp execOp;simp only[ho,hx,hy,Sem.run_bind,Sem.run_pure,Result.andThen_ok,afc t e n cs k v d h he hd hsz hk hv];exact hK _ _ hh
def mH:List (List Int):=[[60,62],[60,61],[62,61],[43],[45],[42],[47],[38],[61],[60],[62],[40],[41],[44],[58]]
def Ug:List ByteArray:=[⟨#[60,62]⟩,⟨#[60,61]⟩,⟨#[62,61]⟩,⟨#[43]⟩,⟨#[45]⟩,⟨#[42]⟩,⟨#[47]⟩,⟨#[38]⟩,⟨#[61]⟩,⟨#[60]⟩,⟨#[62]⟩,⟨#[40]⟩,⟨#[41]⟩,⟨#[44]⟩,⟨#[58]⟩]
def yF:Array Value:=(Ug.map Value.string).toArray
theorem af6:∀j:Nat,j<15→∃t,Ug[j]? = some t∧yF[j]? = some (.string t)∧sb t=mH.getD j []∧t.size≤2∧t=strOfNums (mH.getD j [])
 | 0,_=>⟨_,rfl,rfl,by decide,by decide,by decide +kernel⟩
 | 1,_=>⟨_,rfl,rfl,by decide,by decide,by decide +kernel⟩
 | 2,_=>⟨_,rfl,rfl,by decide,by decide,by decide +kernel⟩
 | 3,_=>⟨_,rfl,rfl,by decide,by decide,by decide +kernel⟩
 | 4,_=>⟨_,rfl,rfl,by decide,by decide,by decide +kernel⟩
 | 5,_=>⟨_,rfl,rfl,by decide,by decide,by decide +kernel⟩
 | 6,_=>⟨_,rfl,rfl,by decide,by decide,by decide +kernel⟩
 | 7,_=>⟨_,rfl,rfl,by decide,by decide,by decide +kernel⟩
 | 8,_=>⟨_,rfl,rfl,by decide,by decide,by decide +kernel⟩
 | 9,_=>⟨_,rfl,rfl,by decide,by decide,by decide +kernel⟩
 | 10,_=>⟨_,rfl,rfl,by decide,by decide,by decide +kernel⟩
 | 11,_=>⟨_,rfl,rfl,by decide,by decide,by decide +kernel⟩
 | 12,_=>⟨_,rfl,rfl,by decide,by decide,by decide +kernel⟩
 | 13,_=>⟨_,rfl,rfl,by decide,by decide,by decide +kernel⟩
 | 14,_=>⟨_,rfl,rfl,by decide,by decide,by decide +kernel⟩
 | j+15,h=>by omega
theorem Da (a b:Int)(l:List Int):jY [a,b] l=true↔l.head? = some a∧l.tail.head? = some b:=by
 unfold jY;rw[decide_eq_true_iff]
 match l with
 | []=>simp
 | [x]=>simp
 | x :: y :: m=>simp
theorem PZ (a:Int)(l:List Int):jY [a] l=true↔l.head? = some a:=by
 unfold jY;rw[decide_eq_true_iff]
 match l with
 | []=>simp
 | x :: m=>simp
theorem af9:∀j:Nat,j<15→∀l:List Int,(∀q,q<j→jY (mH.getD q []) l=false)→jY (mH.getD j []) l=true→nS l=some ({ ag.zero with kind:=5,text:=strOfNums (mH.getD j []) },(mH.getD j []).length):=by
 intro j hj l hno bQ
 have hlen:kI l=(mH.getD j []).length:=by
  have hn0:∀a b q,q<j→mH.getD q []=[a,b]→¬ (l.head? = some a∧l.tail.head? = some b):=by
   intro a b q hq he h;have:=hno q hq;rw[he,(Da a b l).2 h]at this;cases this
  cases l with
  | nil =>
    exfalso;have:∀j,j<15→mH.getD j []≠[]:=by decide
    unfold jY at bQ;rw[decide_eq_true_iff,List.take_nil]at bQ;exact this j hj bQ.symm
  | cons x m =>
    rw[rF];simp only[List.head?_cons,List.tail_cons,bA]at hn0
    match j,hj with
    | 0,_=>obtain⟨h1,h2⟩:=(Da _ _ _).1 bQ;simp at h1 h2;rw[if_pos (by left;exact⟨h1,.inl h2⟩)];rfl
    | 1,_=>obtain⟨h1,h2⟩:=(Da _ _ _).1 bQ;simp at h1 h2;rw[if_pos (by left;exact⟨h1,.inr h2⟩)];rfl
    | 2,_=>obtain⟨h1,h2⟩:=(Da _ _ _).1 bQ;simp at h1 h2;rw[if_pos (by right;exact⟨h1,h2⟩)];rfl
    | j + 3,hj =>
      have g0:=hn0 60 62 0 (by omega) rfl;have g1:=hn0 60 61 1 (by omega) rfl;have g2:=hn0 62 61 2 (by omega) rfl
      rw [if_neg (by
       rintro(⟨h1,h2|h2⟩|⟨h1,h2⟩)
       · exact g0 ⟨h1,h2⟩
       · exact g1 ⟨h1,h2⟩
       · exact g2 ⟨h1,h2⟩)]
      have hx:∃a,mH.getD (j+3) []=[a]∧(a=43∨a=45∨a=42∨a=47∨a=38∨a=61∨a=60∨a=62∨a=40∨a=41∨a=44∨a=58):=by
       have:∀j,j<12→∃a,mH.getD (j+3) []=[a]∧(a=43∨a=45∨a=42∨a=47∨a=38∨a=61∨a=60∨a=62∨a=40∨a=41∨a=44∨a=58):=by
        intro j hj
        match j,hj with
        | 0,_=>exact⟨43,rfl,by omega⟩
        | 1,_=>exact⟨45,rfl,by omega⟩
        | 2,_=>exact⟨42,rfl,by omega⟩
        | 3,_=>exact⟨47,rfl,by omega⟩
        | 4,_=>exact⟨38,rfl,by omega⟩
        | 5,_=>exact⟨61,rfl,by omega⟩
        | 6,_=>exact⟨60,rfl,by omega⟩
        | 7,_=>exact⟨62,rfl,by omega⟩
        | 8,_=>exact⟨40,rfl,by omega⟩
        | 9,_=>exact⟨41,rfl,by omega⟩
        | 10,_=>exact⟨44,rfl,by omega⟩
        | 11,_=>exact⟨58,rfl,by omega⟩
        | j+12,h=>omega
       exact this j (by omega)
      obtain⟨a,ha,hor⟩:=hx;rw[ha]at bQ ⊢;have h1:=(PZ _ _).1 bQ;simp at h1;subst h1;rw[if_pos hor];rfl
 have lH:(mH.getD j []).length≠0:=by
  have:∀j,j<15→(mH.getD j []).length≠0:=by decide
  exact this j hj
 unfold nS;rw[hlen,if_neg lH];unfold jY at bQ;rw[decide_eq_true_iff]at bQ;rw[bQ]
theorem af7 (l:List Int)(hno:∀q,q<15→jY (mH.getD q []) l=false):nS l=none:=by
 have h2:∀a b q,q<15→mH.getD q []=[a,b]→¬ (l.head? = some a∧l.tail.head? = some b):=by
  intro a b q hq he h;have:=hno q hq;rw[he,(Da a b l).2 h]at this;cases this
 have h1:∀a q,q<15→mH.getD q []=[a]→¬ l.head? = some a:=by
  intro a q hq he h;have:=hno q hq;rw[he,(PZ a l).2 h]at this;cases this
 have hz:kI l=0:=by
  cases l with
  | nil=>rfl
  | cons x m =>
    rw[rF];simp only[List.head?_cons,List.tail_cons,bA]at h1 h2;have g0:=h2 60 62 0 (by omega) rfl;have g1:=h2 60 61 1 (by omega) rfl;have g2:=h2 62 61 2 (by omega) rfl;have k3:=h1 43 3 (by omega) rfl;have k4:=h1 45 4 (by omega) rfl;have k5:=h1 42 5 (by omega) rfl;have k6:=h1 47 6 (by omega) rfl;have k7:=h1 38 7 (by omega) rfl;have k8:=h1 61 8 (by omega) rfl;have k9:=h1 60 9 (by omega) rfl;have k10:=h1 62 10 (by omega) rfl;have k11:=h1 40 11 (by omega) rfl;have k12:=h1 41 12 (by omega) rfl;have k13:=h1 44 13 (by omega) rfl;have k14:=h1 58 14 (by omega) rfl
    rw [if_neg (by
     rintro(⟨h1,h2|h2⟩|⟨h1,h2⟩)
     · exact g0 ⟨h1,h2⟩
     · exact g1 ⟨h1,h2⟩
     · exact g2 ⟨h1,h2⟩),if_neg (by omega)]
 unfold nS;rw[if_pos hz]
def vD(w:World):Prop:=∃ty fr,w.heap[(1:Nat)]? = some (.cells yF ty fr)
theorem vD.lt{w:World}(h:vD w):1<w.heap.size:=by obtain⟨_,_,h⟩:=h;exact(dO.1 h).1
theorem vD.grown {w w':World}{b:Nat}(h:vD w)(hg:w.grownBy w' (some b))(hb:max 8 1<b):vD w':=by
 have h0:=h.lt;obtain⟨ty,fr,h1⟩:=h;exact⟨ty,fr,by rw[hg.block _ h0 (by intro e;have:=dU e;omega)];exact h1⟩
theorem vD.below {w w':World}(h:vD w)(hb:Below w.heap.size w w'):vD w':=by
 have h0:=h.lt;obtain⟨ty,fr,h1⟩:=h;exact⟨ty,fr,by rw[hb.block _ h0];exact h1⟩
theorem xx.below{w w':World}(h:xx w)(hb:Below w.heap.size w w'):xx w':=h.grown (b:=w.heap.size+8+1) (grownBy.OB hb) (by omega)
theorem Tz:Tryz.f142.results=#[.cell 2 71,.tmp 3]:=by kernel_rfl
theorem Me:Tryz.prog.underlying 170=some (.array 15 9):=Tryz.underlying170
theorem af8:(Tryz.prog.info? 170).map (·.size)=some yF.size:=by kernel_rfl
theorem Uz:(Tryz.prog.info? 9).map (·.size)=some 1:=by kernel_rfl
theorem agb (b:Nat)(s:ByteArray)(k:Nat)(w:World)(h:bL w b s k)(_hs:s.size≤1000000)(_hk:k<s.size)(hsv:vD w)(hb2:max 8 1<b) :
 Calls Tryz.prog 142 #[.pointer (some ⟨b,0,none⟩)] w (oh (nS (aA s k)) b s k w):=by
 have hlt:=h.lt;have hw0:w.heap.size≠b:=by omega
 obtain⟨ty,fr,Dj⟩:=hsv.grown (Bu w b) hb2;clear hsv;have aU:=ae (Bu w b);have aM:=ae (aC.zero w);have wz:=ae h.tok;clear h;have IU:=ae Dj;clear Dj;go_enter Tryz.func142,Tryz.ntmps142;go_upto_region 1 with (fail)
 refine wp_region_lit ?_;refine wpList_load_row rfl 170 (.global 1) rfl 1 rfl ty yF fr _ IU.o Me rfl af8 ?_;go_wp2_with fail
 go_loopw [7] (fun i wr=>∃j:Nat,j≤15∧i = .int .i64 j∧Hid (∀q,q<j→jY (mH.getD q []) (aA s k)=false)∧Hid (bL wr b s k)∧Hid ((w.alloc (.cells jF 71)).grownBy wr (some b)))
  (fun i _=>15 - (intOf i).toNat)
 case atStart=>exact⟨0,by omega,rfl,ae (by intro q hq;omega),wz,ae (grownBy.fo _ _)⟩
 case round =>
  obtain⟨j,hj,rfl,dN,HR,HG⟩:=hrel;by_cases hlt:j<15
  · have hji:(j:Int)<15:=by omega
    obtain⟨t,ht1,ht2,ht3,ht4,QB⟩:=af6 j hlt;have hT:=UE b s t k wr HR.o _hs (by omega) (by omega);rw[ht3]at hT;have HT2:=ae ht2;have HT3:=ae ht3;have Wu:=ae QB;clear ht1 ht2 ht3 QB;cases hq:jY (mH.getD j []) (aA s k)
    · rw [hq]at hT
      have HT:=ae hT;have HQ:=ae hq;clear hT hq;go_upto_region 3 with (fail)
      refine wp_region_lit ?_;refine U7 rfl 170 9 15 (.tmp 6) (.tmp 7) rfl yF j (.string t) _ Me Tryz.underlying9 rfl Uz rfl rfl hlt HT2.o ?_;go_wp2_with (go_at_call 156;((with_reducible refine HT.o.mono ?_);rintro e w1 ⟨h1,rfl,h2⟩;have H1:=ae h1;have H2:=ae h2;clear h1 h2))
      go_roundw
      case rel =>
       refine⟨j+1,by omega,by go_num,ae ?_,H2,ae (grownBy.trans' HG.o H1.o)⟩;intro q hq;by_cases hqj:q<j
       · exact dN.o q hqj
       · rw[show q=j from by omega];exact HQ.o
      case measure=>simp[intOf];omega
    · rw[hq]at hT
      have HT:=ae hT;clear hT;have hsz:t.size=(mH.getD j []).length:=by rw[← HT3.o,aV]
      have hN:=af9 j hlt (aA s k) dN.o hq;rw[← Wu.o, ← hsz]at hN;have HN:=ae hN;clear hN hq hsz;go_upto_region 3 with (fail)
      refine wp_region_lit ?_;refine U7 rfl 170 9 15 (.tmp 6) (.tmp 7) rfl yF j (.string t) _ Me Tryz.underlying9 rfl Uz rfl rfl hlt HT2.o ?_;go_wp2_with (go_at_call 156;((with_reducible refine HT.o.mono ?_);rintro e w1 ⟨h1,rfl,h2⟩;have H1:=ae (grownBy.trans' HG.o h1);have H2:=ae h2;clear h1 h2;have HT2:=ae (aM.o.grown H1.o hw0);obtain⟨x0,x1,x2,x3,x4,x5,x6,x7,av⟩:=HT2.o.cells;obtain⟨f0,f1,f2,f3,f4,f5,f6,f7,f8⟩:=HT2.o.bH))
      exact bodyPost_ret (oI (HT2.o.gY { ag.zero with kind:=5,text:=t }) _ _ true 2 3 Tz rfl rfl) rfl ⟨grownBy.j4 (grownBy.trans' aU.o H1.o) (ah _) _ _ _ _ _ _ _ _ _,.inl ⟨_,_,HN.o,rfl,H2.o.j4 hw0 _ _ _ _ _ _ _ _ _⟩⟩
  · have hji:¬ (j:Int)<15:=by omega
    have HN:=ae (af7 (aA s k) (fun q hq=>dN.o q (by omega)));have HT2:=ae (aM.o.grown HG.o hw0);obtain⟨x0,x1,x2,x3,x4,x5,x6,x7,av⟩:=HT2.o.cells;obtain⟨f0,f1,f2,f3,f4,f5,f6,f7,f8⟩:=HT2.o.bH;go_wp2_with fail
    exact bodyPost_ret (oI (HT2.o.gY ag.zero) _ _ false 2 3 Tz rfl rfl) rfl ⟨grownBy.j4 (grownBy.trans' aU.o HG.o) (ah _) _ _ _ _ _ _ _ _ _,.inr ⟨HN.o,ag.zero,rfl⟩⟩
def mR(s:ByteArray)(k p:Nat)(xs:List Int):Prop:=dS (aA s (k+1))=(dS (aA s p)).map fun q=>(xs++q.1,p - (k+1)+q.2)
theorem mG (s:ByteArray)(p:Nat)(h:p<s.size):aA s p=((s[p].toNat:Nat):Int) :: aA s (p+1):=by
 unfold aA;rw[List.drop_eq_getElem_cons (by rw[aV];exact h)];congr 1;have:=pJ s p h;rw[dm (by rw[aV];exact h)]at this;exact dU this
theorem DJ (s:ByteArray)(p:Nat)(h:s.size≤p):aA s p=[]:=by
 apply kg;rw[ny];omega
theorem S9 {s:ByteArray}{k p:Nat}{xs:List Int}(h:mR s k p xs)(hp:s.size≤p):kG (aA s (k+1))=none:=by
 unfold mR at h;unfold kG;rw[h,DJ s p hp];rfl
theorem Ta {s:ByteArray}{k p:Nat}{xs:List Int}(h:mR s k p xs)(hp:p<s.size)(hc:((s[p].toNat:Nat):Int)<32):kG (aA s (k+1))=none:=by
 unfold mR at h;unfold kG;rw[h,mG s p hp,sU,if_pos hc];rfl
theorem Tc {s:ByteArray}{k p:Nat}{xs:List Int}{a:Int}(h:mR s k p xs)(hk:k+1≤p)(hp:p<s.size)(ha:((s[p].toNat:Nat):Int)=a)(h1:¬ a<32)(h2:¬ a=34):mR s k (p+1) (xs++[a]):=by
 unfold mR at h ⊢;rw[h,mG s p hp,sU,ha,if_neg h1,if_pos h2];cases dS (aA s (p+1))with
 | none=>rfl
 | some q =>
   simp only[Option.map_some,bA,bg,bG,cu,gL,true_and];omega
theorem Td {s:ByteArray}{k p:Nat}{xs:List Int}(h:mR s k p xs)(hk:k+1≤p)(hp:p<s.size)(ha:((s[p].toNat:Nat):Int)=34)(hp2:p+1<s.size)(ha2:((s[p+1].toNat:Nat):Int)=34):mR s k (p+1+1) (xs++[34]):=by
 unfold mR at h ⊢;rw[h,mG s p hp,mG s (p+1) hp2,sU,ha,ha2,if_neg (by omega),if_neg (by omega)];simp only[if_true];cases dS (aA s (p+1+1))with
 | none=>rfl
 | some q =>
   simp only[Option.map_some,bA,bg,bG,cu,gL,true_and];omega
theorem Gz {s:ByteArray}{k p:Nat}{xs:List Int}(h:mR s k p xs)(hk:k+1≤p)(hp:p<s.size)(ha:((s[p].toNat:Nat):Int)=34)(h2:∀h:p+1<s.size,¬ ((s[p+1].toNat:Nat):Int)=34) :
 kG (aA s (k+1))=some ({ ag.zero with kind:=2,text:=strOfNums xs },p+1 - k):=by
 unfold mR at h
 have hq:dS (aA s p)=some ([],1):=by
  rw[mG s p hp,sU,ha,if_neg (by omega),if_neg (by omega)];by_cases hp2:p+1<s.size
  · rw[mG s (p+1) hp2]
    simp only[if_neg (h2 hp2)]
  · rw[DJ s (p+1) (by omega)]
 unfold kG;rw[h,hq];simp only[Option.map_some,fM,bA,bg,true_and];omega
theorem grownBy.OA {a w w':World}{r:Option Nat}(h:a.grownBy w r)(k:Below (a.heap.size+1) w w'):a.grownBy w' r :=
 ⟨k.os.trans h.os,k.tape.trans h.tape,k.output.trans h.output,bF h.size k.size,fun j hj hr=>(k.block j (by omega)).trans (h.block j hj hr)⟩
theorem GH:Tryz.f138.results=#[.cell 2 71,.tmp 3]:=by kernel_rfl
theorem ad4 (b:Nat)(s:ByteArray)(k:Nat)(w:World)(h:bL w b s k)(_hs:s.size≤1000000)(_hk:k<s.size) :
 Calls Tryz.prog 138 #[.pointer (some ⟨b,0,none⟩)] w (oh (kG (aA s (k+1))) b s k w):=by
 have hlt:=h.lt;have hw0:w.heap.size≠b:=by omega
 have CZ:b<w.heap.size+1:=by omega
 obtain⟨c0,c1⟩:=h.tok.facts;have f1:=h.tok.frozen 1;have PG:w.grownBy ((w.setCell ⟨b,1,none⟩ (.int .i64 ((k:Int)+1))).alloc (.cells jF 71)) (some b):=grownBy.below' (grownBy.gp (grownBy.fo _ _) _ _) ((ai _ _).alloc (ah _) _);have aU:=ae PG;clear PG;have JV:=aC.zero (w.setCell ⟨b,1,none⟩ (.int .i64 ((k:Int)+1)));rw[show(w.setCell ⟨b,1,none⟩ (.int .i64 ((k:Int)+1))).heap.size=w.heap.size by simp]at JV;have aM:=ae JV;clear JV;have wz:=ae (h.xm.tok);clear h;go_enter Tryz.func138,Tryz.ntmps138;go_wp2_with fail
 clear c0 c1 f1
 go_loopw [4] (fun v wr=>∃(p:Nat)(xs:List Int),k+1≤p∧p≤s.size∧xs.length≤p∧Hid (Bytes xs)∧Hid (mR s k p xs)∧Hid (bL wr b s p)∧Hid (oW wr (w.heap.size+1) v xs)∧Hid (aC wr w.heap.size ag.zero)∧Hid (w.grownBy wr (some b)))
  (fun _ wr=>mE b s.size wr)
 case atStart =>
  refine⟨k+1,[],by omega,by omega,by simp,ae Bytes.nil,ae ?_,wz,ae (Own.nil _ _ _ _),aM,aU⟩;unfold mR;cases dS (aA s (k+1))with
  | none=>rfl
  | some q=>simp
 case round =>
  obtain⟨p,xs,hkp,hps,hxl,wo,HQ,HR,HO,HT,HG⟩:=hrel;clear aU aM wz;have Qf:=HR.o.mE s.size;have xI:=ae Qf;clear Qf;obtain⟨c0,c1⟩:=HR.o.facts;have f1:=HR.o.frozen 1;by_cases hlt:p<s.size
  · have kE : (p:Int)<(s.size:Int):=by omega
    obtain⟨a,ha⟩:∃a:Int,(s[p].toNat:Int)=a:=⟨_,rfl⟩;have ha1:0≤a∧a≤255:=by have:=s[p].toNat_lt;omega
    by_cases wU:a<32
    · have HN:=ae (Ta HQ.o hlt (by rw[ha];exact wU))
      go_wp2_with fail
      go_quiet (fail)
      have HR1:=ae (HR.o.drewN nq);have fB:=ae (HO.o.drewN nq);have HT1:=ae (HT.o.drewN nq);have mM:=ae (grownBy.eX HG.o nq);generalize wr.drewN nq=w1 at HR1 fB HT1 mM ⊢;clear c0 c1 f1 HR HO HT HG;obtain⟨c0,c1⟩:=HR1.o.facts;have f1:=HR1.o.frozen 1;go_wp2_with fail
      go_quiet (fail)
      have HR2:=ae (HR1.o.drewN nq);have mO:=ae (fB.o.drewN nq);have HT2:=ae (HT1.o.drewN nq);have HG2:=ae (grownBy.eX mM.o nq);generalize w1.drewN nq=w2 at HR2 mO HT2 HG2 ⊢;clear c0 c1 f1 HR1 fB HT1 mM;obtain⟨c0,c1⟩:=HR2.o.facts;have f1:=HR2.o.frozen 1;obtain⟨x0,x1,x2,x3,x4,x5,x6,x7,av⟩:=HT2.o.cells;obtain⟨g0,g1,g2,g3,g4,g5,g6,g7,g8⟩:=HT2.o.bH;go_wp2_with fail
      exact bodyPost_ret (oI (HT2.o.gY ag.zero) _ _ false 2 3 GH rfl rfl) rfl ⟨grownBy.j4 HG2.o (ah _) _ _ _ _ _ _ _ _ _,.inr ⟨HN.o,ag.zero,rfl⟩⟩
    · by_cases df:a=34
      · have zx:(a == 34)=true:=beq_iff_eq.2 df
        obtain⟨q,hq⟩:∃q:Nat,p+1=q:=⟨_,rfl⟩;go_wp2_with fail
        go_quiet (fail)
        have HR1:=ae (HR.o.drewN nq);have fB:=ae (HO.o.drewN nq);have HT1:=ae (HT.o.drewN nq);have mM:=ae (grownBy.eX HG.o nq);generalize wr.drewN nq=w1 at HR1 fB HT1 mM ⊢;clear c0 c1 f1 HR HO HT HG;obtain⟨c0,c1⟩:=HR1.o.facts;have f1:=HR1.o.frozen 1;go_wp2_with fail
        go_quiet (fail)
        have HR2:=ae (HR1.o.drewN nq);have mO:=ae (fB.o.drewN nq);have HT2:=ae (HT1.o.drewN nq);have HG2:=ae (grownBy.eX mM.o nq);generalize w1.drewN nq=w2 at HR2 mO HT2 HG2 ⊢;clear c0 c1 f1 HR1 fB HT1 mM;obtain⟨c0,c1⟩:=HR2.o.facts;have f1:=HR2.o.frozen 1;go_upto_region 10 with (fail)
        have HR3:=ae (HR2.o.xm);have fZ:=ae (Own.other mO.o (grownBy.gp (grownBy.fo _ _) _ _) CZ:oW (w2.setCell ⟨b,1,none⟩ (.int .i64 ((p:Int)+1))) _ _ _);have HT3:=ae (HT2.o.grown (grownBy.gp (grownBy.fo _ _) 1 (.int .i64 ((p:Int)+1))) hw0);have eQ:=ae (grownBy.gp HG2.o 1 (.int .i64 ((p:Int)+1)));generalize w2.setCell ⟨b,1,none⟩ (.int .i64 ((p:Int)+1))=w3 at HR3 fZ HT3 eQ ⊢;clear c0 c1 f1 HR2 mO HT2 HG2;obtain⟨c0,c1⟩:=HR3.o.facts;have f1:=HR3.o.frozen 1;have NI:=ae (show bL w3 b s q by rw[← hq];exact HR3.o);clear c0 c1 HR3;have HR3:=NI;clear NI;obtain⟨c0,c1⟩:=HR3.o.facts;have Cx:=ae hq;by_cases Bg:q<s.size
        · have Z0:((q:Int) == (s.size:Int))=false:=beq_eq_false_iff_ne.2 (by omega)
          have yg:(q:Int)<(s.size:Int):=by omega
          obtain⟨a2,ha2⟩:∃a2:Int,(s[q].toNat:Int)=a2:=⟨_,rfl⟩;have Zm:0≤a2∧a2≤255:=by have:=s[q].toNat_lt;omega
          by_cases wP:a2=34
          · have JY:(a2 == 34)=true:=beq_iff_eq.2 wP
            have lG:=ae (show mR s k (q+1) (xs++[34])by subst hq;exact Td HQ.o hkp hlt (by rw[ha,df]) Bg (by rw[ha2,wP]));clear HQ hq;go_quiet (fail)
            have HR4:=ae (HR3.o.drewN nq);have mP:=ae (fZ.o.drewN nq);have oV:=ae (HT3.o.drewN nq);have nH:=ae (grownBy.eX eQ.o nq);generalize w3.drewN nq=w4 at HR4 mP oV nH ⊢;clear c0 c1 f1 HR3 fZ HT3 eQ;obtain⟨c0,c1⟩:=HR4.o.facts;have f1:=HR4.o.frozen 1;go_wp2_with (at_builtin;refine nC Elem.u8 (aK .u8) rfl (.tmp 76) (.tmp 78) rfl (w.heap.size+1) _ _ rfl (mP.o.alloc _) ⟨_,0,none⟩ 1 1 [34] rfl rfl ?_ ?_ ?_ ?_ ?_;exact gQ _ _ _ rfl;omega;(unfold maxLen;omega);(have:=oV.o.lt;simp <;> omega);intro v' nD h1 h2;have oQ:=ae h1;have ku:=ae (((ai (w.heap.size+1) _).alloc (by have:=oV.o.lt;omega) _).trans h2);clear h1 h2;have wE:=ae (HR4.o.below ku.o CZ);have y8:=ae (oV.o.below ku.o (Nat.lt_succ_self _));have Ik:=ae (grownBy.OA nH.o ku.o);clear HR4 mP oV nH c0 c1 f1;obtain⟨c0,c1⟩:=wE.o.facts;have f1:=wE.o.frozen 1)
            go_roundw
            case rel =>
             refine⟨q+1,xs++[34],by have:=Cx.o;omega,by omega,by have:=Cx.o;simp;omega,ae (wo.o.append (by intro x hx;simp at hx;omega)),lG,ae wE.o.xm,ae (Own.other oQ.o (grownBy.gp (grownBy.fo _ _) _ _) CZ),ae (y8.o.grown (grownBy.gp (grownBy.fo _ _) _ _) hw0),ae (grownBy.gp Ik.o _ _)⟩
            case measure =>
             have h1:=wE.o.xm.mE s.size;have h2:=Cx.o;rw[xI.o];exact Nat.lt_of_le_of_lt (Nat.le_of_eq h1) (by omega)
          · have JY:(a2 == 34)=false:=beq_eq_false_iff_ne.2 wP
            have HN:=ae (show kG (aA s (k+1))=some ({ ag.zero with kind:=2,text:=strOfNums xs },q - k)by subst hq;exact Gz HQ.o hkp hlt (by rw[ha,df]) (fun h=>by rw[ha2];exact wP));clear HQ hq;go_quiet (fail)
            have HR4:=ae (HR3.o.drewN nq);have mP:=ae (fZ.o.drewN nq);have oV:=ae (HT3.o.drewN nq);have nH:=ae (grownBy.eX eQ.o nq);generalize w3.drewN nq=w4 at HR4 mP oV nH ⊢;clear c0 c1 f1 HR3 fZ HT3 eQ;obtain⟨c0,c1⟩:=HR4.o.facts;have f1:=HR4.o.frozen 1;have J3:=BK mP.o;obtain⟨x0,x1,x2,x3,x4,x5,x6,x7,av⟩:=oV.o.cells;obtain⟨g0,g1,g2,g3,g4,g5,g6,g7,g8⟩:=oV.o.bH;go_wp2_with fail
            exact bodyPost_ret (oI (oV.o.gY { ag.zero with kind:=2,text:=strOfNums xs }) _ _ true 2 3 GH rfl rfl) rfl ⟨grownBy.j4 nH.o (ah _) _ _ _ _ _ _ _ _ _,.inl ⟨_,_,HN.o,rfl,by rw[show k+(q - k)=q from by have:=Cx.o;omega];exact HR4.o.j4 hw0 _ _ _ _ _ _ _ _ _⟩⟩
        · have Z0:((q:Int) == (s.size:Int))=true:=beq_iff_eq.2 (by omega)
          have HN:=ae (show kG (aA s (k+1))=some ({ ag.zero with kind:=2,text:=strOfNums xs },q - k)by subst hq;exact Gz HQ.o hkp hlt (by rw[ha,df]) (fun h=>absurd h Bg));clear HQ hq;go_quiet (fail)
          have HR4:=ae (HR3.o.drewN nq);have mP:=ae (fZ.o.drewN nq);have oV:=ae (HT3.o.drewN nq);have nH:=ae (grownBy.eX eQ.o nq);generalize w3.drewN nq=w4 at HR4 mP oV nH ⊢;clear c0 c1 f1 HR3 fZ HT3 eQ;obtain⟨c0,c1⟩:=HR4.o.facts;have f1:=HR4.o.frozen 1;have J3:=BK mP.o;obtain⟨x0,x1,x2,x3,x4,x5,x6,x7,av⟩:=oV.o.cells;obtain⟨g0,g1,g2,g3,g4,g5,g6,g7,g8⟩:=oV.o.bH;go_wp2_with fail
          exact bodyPost_ret (oI (oV.o.gY { ag.zero with kind:=2,text:=strOfNums xs }) _ _ true 2 3 GH rfl rfl) rfl ⟨grownBy.j4 nH.o (ah _) _ _ _ _ _ _ _ _ _,.inl ⟨_,_,HN.o,rfl,by rw[show k+(q - k)=q from by have:=Cx.o;omega];exact HR4.o.j4 hw0 _ _ _ _ _ _ _ _ _⟩⟩
      · have zx:(a == 34)=false:=beq_eq_false_iff_ne.2 df
        have lG:=ae (Tc HQ.o hkp hlt ha wU df);clear HQ;go_wp2_with fail
        go_quiet (fail)
        have HR1:=ae (HR.o.drewN nq);have fB:=ae (HO.o.drewN nq);have HT1:=ae (HT.o.drewN nq);have mM:=ae (grownBy.eX HG.o nq);generalize wr.drewN nq=w1 at HR1 fB HT1 mM ⊢;clear c0 c1 f1 HR HO HT HG;obtain⟨c0,c1⟩:=HR1.o.facts;have f1:=HR1.o.frozen 1;go_wp2_with fail
        go_quiet (fail)
        have HR2:=ae (HR1.o.drewN nq);have mO:=ae (fB.o.drewN nq);have HT2:=ae (HT1.o.drewN nq);have HG2:=ae (grownBy.eX mM.o nq);generalize w1.drewN nq=w2 at HR2 mO HT2 HG2 ⊢;clear c0 c1 f1 HR1 fB HT1 mM;obtain⟨c0,c1⟩:=HR2.o.facts;have f1:=HR2.o.frozen 1;go_wp2_with (at_builtin;refine nC Elem.u8 (aK .u8) rfl (.tmp 76) (.tmp 78) rfl (w.heap.size+1) _ _ rfl (mO.o.alloc _) ⟨_,0,none⟩ 1 1 [a] rfl rfl ?_ ?_ ?_ ?_ ?_;exact gQ _ _ _ rfl;omega;(unfold maxLen;omega);(have:=HT2.o.lt;simp <;> omega);intro v' nD h1 h2;have oQ:=ae h1;have ku:=ae (((ai (w.heap.size+1) _).alloc (by have:=HT2.o.lt;omega) _).trans h2);clear h1 h2;have wE:=ae (HR2.o.below ku.o CZ);have y8:=ae (HT2.o.below ku.o (Nat.lt_succ_self _));have Ik:=ae (grownBy.OA HG2.o ku.o);clear HR2 mO HT2 HG2 c0 c1 f1;obtain⟨c0,c1⟩:=wE.o.facts;have f1:=wE.o.frozen 1)
        go_roundw
        case rel =>
         refine⟨p+1,xs++[a],by omega,by omega,by simp;omega,ae (wo.o.append (by intro x hx;simp at hx;omega)),lG,ae wE.o.xm,ae (Own.other oQ.o (grownBy.gp (grownBy.fo _ _) _ _) CZ),ae (y8.o.grown (grownBy.gp (grownBy.fo _ _) _ _) hw0),ae (grownBy.gp Ik.o _ _)⟩
        case measure =>
         have h1:=wE.o.xm.mE s.size;rw[xI.o];exact Nat.lt_of_le_of_lt (Nat.le_of_eq h1) (by omega)
  · have kE:¬ (p:Int)<(s.size:Int):=by omega
    have HN:=ae (S9 HQ.o (by omega));go_wp2_with fail
    go_quiet (fail)
    have HR1:=ae (HR.o.drewN nq);have fB:=ae (HO.o.drewN nq);have HT1:=ae (HT.o.drewN nq);have mM:=ae (grownBy.eX HG.o nq);generalize wr.drewN nq=w1 at HR1 fB HT1 mM ⊢;clear c0 c1 f1 HR HO HT HG;obtain⟨c0,c1⟩:=HR1.o.facts;have f1:=HR1.o.frozen 1;obtain⟨x0,x1,x2,x3,x4,x5,x6,x7,av⟩:=HT1.o.cells;obtain⟨g0,g1,g2,g3,g4,g5,g6,g7,g8⟩:=HT1.o.bH;go_wp2_with fail
    exact bodyPost_ret (oI (HT1.o.gY ag.zero) _ _ false 2 3 GH rfl rfl) rfl ⟨grownBy.j4 mM.o (ah _) _ _ _ _ _ _ _ _ _,.inr ⟨HN.o,ag.zero,rfl⟩⟩
structure Vars (w:World):Prop where
 err:xx w
 sig:vD w
theorem Vars.grown{w w':World}{b:Nat}(h:Vars w)(hg:w.grownBy w' (some b))(hb:max 8 1<b):Vars w':=⟨h.err.grown hg (by omega),h.sig.grown hg hb⟩
theorem Vars.below{w w':World}(h:Vars w)(hb:Below w.heap.size w w'):Vars w':=⟨h.err.below hb,h.sig.below hb⟩
theorem m_num:∀args (v:World),(callFunc 137 args).run Tryz.prog v = .ok (.enter 137 args) v:=Go.Proofs.enters_of Tryz.func137 (by kernel_rfl) rfl
theorem ab4:∀args (v:World),(callFunc 138 args).run Tryz.prog v = .ok (.enter 138 args) v:=Go.Proofs.enters_of Tryz.func138 (by kernel_rfl) rfl
theorem ab3:∀args (v:World),(callFunc 139 args).run Tryz.prog v = .ok (.enter 139 args) v:=Go.Proofs.enters_of Tryz.func139 (by kernel_rfl) rfl
theorem ab6:∀args (v:World),(callFunc 141 args).run Tryz.prog v = .ok (.enter 141 args) v:=Go.Proofs.enters_of Tryz.func141 (by kernel_rfl) rfl
theorem ab5:∀args (v:World),(callFunc 142 args).run Tryz.prog v = .ok (.enter 142 args) v:=Go.Proofs.enters_of Tryz.func142 (by kernel_rfl) rfl
theorem aci (b:Nat)(s:ByteArray)(k:Nat)(_hs:s.size≤1000000)(_hk:k<s.size)(hb2:max 8 1<b)(a:Int)(ha:((s[k].toNat:Nat):Int)=a) :
 (∀args (v:World),(callFunc (pq a) args).run Tryz.prog v = .ok (.enter (pq a) args) v) ∧
 (∀w,bL w b s k→Vars w→Calls Tryz.prog (pq a) #[.pointer (some ⟨b,0,none⟩)] w (oh (eO (aA s k)) b s k w)):=by
 have hc:=mG s k _hk;rw[ha]at hc;have ht:=qJ a (aA s (k+1));rw[← hc]at ht;rw[ht];cases hn:isNum a
 · rw [if_neg (by simp)]
   by_cases df:a=34
   · rw[RI hn df,if_pos df]
     exact⟨ab4,fun w h _=>ad4 b s k w h _hs _hk⟩
   · rw [if_neg df]
     by_cases jA:a=35
     · rw[RG hn df jA,if_pos jA]
       exact⟨ab3,fun w h _=>Yn b s k w h _hs _hk⟩
     · rw [if_neg jA]
       cases hb:nk a
       · rw[RJ hn df jA hb,if_neg (by unfold nk at hb;simpa using hb)]
         exact⟨ab5,fun w h hv=>agb b s k w h _hs _hk hv.sig hb2⟩
       · rw[RL hn df jA hb,if_pos (by unfold nk at hb;simpa using hb)]
         exact⟨ab6,fun w h _=>ahy b s k w h _hs _hk (by rw[ha];exact hb)⟩
 · rw[RH hn,if_pos rfl]
   exact⟨m_num,fun w h hv=>ac9 b s k w h _hs _hk (by rw[ha];exact hn) hv.err (by omega)⟩
theorem oh.lit {o:Option (ag × Nat)}{b:Nat}{s:ByteArray}{k:Nat}{w w':World}{e:Ending}(h:oh o b s k w e w') :
 w.grownBy w' (some b)∧((∃t n,o=some (t,n)∧e = .returned (.tuple #[.agg #[.int .i64 t.kind,.string t.text,.int .i64 t.num,.string t.sh,.int .i64 t.c,.int .i64 t.r,.bool t.ac,.bool t.ar,.int .i64 t.pos],.bool true])∧bL w' b s (k+n))∨(o=none∧∃t:ag,e = .returned (.tuple #[.agg #[.int .i64 t.kind,.string t.text,.int .i64 t.num,.string t.sh,.int .i64 t.c,.int .i64 t.r,.bool t.ac,.bool t.ar,.int .i64 t.pos],.bool false]))):=h
theorem TA:Tryz.f85.results=#[.cell 2 71,.tmp 3]:=by kernel_rfl
theorem ahb (b:Nat)(s:ByteArray)(k:Nat)(w:World)(h:bL w b s k)(_hs:s.size≤1000000)(_hk:k<s.size)(hb2:max 8 1<b)(hv:Vars w) :
 Calls Tryz.prog 85 #[.pointer (some ⟨b,0,none⟩)] w (oh ((eO (aA s k)).map fun q=>(q.1.goto k,q.2)) b s k w):=by
 have hlt:=h.lt;have hw0:w.heap.size≠b:=by omega
 obtain⟨a,ha⟩:∃a:Int,(s[k].toNat:Int)=a:=⟨_,rfl⟩;have ha1:0≤a∧a≤255:=by have:=s[k].toNat_lt;omega
 obtain⟨hen,uG⟩:=aci b s k _hs _hk hb2 a ha;have hmo:=fun w=>ach a ha1.1 ha1.2 w
 obtain⟨F,hF⟩:∃F,pq a=F:=⟨_,rfl⟩;rw[hF]at hen uG;simp only[hF]at hmo;have Cr:=ae hmo;clear hmo hF;have HM:=ae (uG _ h.tok (hv.grown (Bu w b) hb2));clear uG hv;have aU:=ae (Bu w b);have aM:=ae (aC.zero w);obtain⟨c0,c1⟩:=h.tok.facts;clear h;have hk2:(k:Int)<(s.size:Int):=by omega
 obtain⟨o,ho⟩:∃o,eO (aA s k)=o:=⟨_,rfl⟩;rw[ho]at HM ⊢;clear ho;go_enter Tryz.func85,Tryz.ntmps85;go_wp2_with (go_at_call 114;((with_reducible refine(Cr.o _).mono ?_);rintro e w1 ⟨rfl,rfl⟩))
 refine HM.o.mono ?_;intro e w1 he;obtain⟨h1,⟨t,n,rfl,rfl,h2⟩|⟨rfl,t,rfl⟩⟩:=he.lit
 · have H1:=ae h1;have H2:=ae h2;clear h1 h2 he
   have hB3:Below w1.heap.size w1 (w1.alloc (.cells #[.int .i64 t.kind,.string t.text,.int .i64 t.num,.string t.sh,.int .i64 t.c,.int .i64 t.r,.bool t.ac,.bool t.ar,.int .i64 (k:Int)] 71)):=(ai _ _).alloc (ah _) _;have hT1:=aM.o.grown H1.o hw0;have HT3:=ae (hT1.below hB3 hT1.lt);have aB:aC (w1.alloc (.cells #[.int .i64 t.kind,.string t.text,.int .i64 t.num,.string t.sh,.int .i64 t.c,.int .i64 t.r,.bool t.ac,.bool t.ar,.int .i64 (k:Int)] 71)) w1.heap.size (t.goto k):=aC.new w1 (t.goto k);have eQ:=ae (grownBy.below' (grownBy.trans' aU.o H1.o) hB3);have xH:=ae (H2.o.below hB3 H2.o.lt);have vN:w.heap.size≠w1.heap.size:=Nat.ne_of_lt hT1.lt;clear hB3 hT1 Cr HM c0 c1;go_upto_region 4 with (fail)
   generalize w1.alloc (.cells #[.int .i64 t.kind,.string t.text,.int .i64 t.num,.string t.sh,.int .i64 t.c,.int .i64 t.r,.bool t.ac,.bool t.ar,.int .i64 (k:Int)] 71)=w3 at HT3 aB eQ xH ⊢;obtain⟨x0,x1,x2,x3,x4,x5,x6,x7,av⟩:=HT3.o.cells;obtain⟨f0,f1,f2,f3,f4,f5,f6,f7,f8⟩:=HT3.o.bH;obtain⟨y0,y1,y2,y3,y4,fq,y6,lL,nE⟩:=aB.cells;clear aB;simp only[ag.goto]at y0 y1 y2 y3 y4 fq y6 lL nE;go_wp2_with fail
   exact bodyPost_ret (oI (HT3.o.gY (t.goto k)) _ _ true 2 3 TA rfl rfl) rfl ⟨grownBy.j4 eQ.o (ah _) _ _ _ _ _ _ _ _ _,.inl ⟨_,_,rfl,rfl,xH.o.j4 hw0 _ _ _ _ _ _ _ _ _⟩⟩
 · have H1:=ae h1;clear h1 he
   have hB3:Below w1.heap.size w1 (w1.alloc (.cells #[.int .i64 t.kind,.string t.text,.int .i64 t.num,.string t.sh,.int .i64 t.c,.int .i64 t.r,.bool t.ac,.bool t.ar,.int .i64 (k:Int)] 71)):=(ai _ _).alloc (ah _) _;have hT1:=aM.o.grown H1.o hw0;have HT3:=ae (hT1.below hB3 hT1.lt);have aB:aC (w1.alloc (.cells #[.int .i64 t.kind,.string t.text,.int .i64 t.num,.string t.sh,.int .i64 t.c,.int .i64 t.r,.bool t.ac,.bool t.ar,.int .i64 (k:Int)] 71)) w1.heap.size (t.goto k):=aC.new w1 (t.goto k);have eQ:=ae (grownBy.below' (grownBy.trans' aU.o H1.o) hB3);have vN:w.heap.size≠w1.heap.size:=Nat.ne_of_lt hT1.lt;clear hB3 hT1 Cr HM c0 c1;go_upto_region 4 with (fail)
   generalize w1.alloc (.cells #[.int .i64 t.kind,.string t.text,.int .i64 t.num,.string t.sh,.int .i64 t.c,.int .i64 t.r,.bool t.ac,.bool t.ar,.int .i64 (k:Int)] 71)=w3 at HT3 aB eQ ⊢;obtain⟨x0,x1,x2,x3,x4,x5,x6,x7,av⟩:=HT3.o.cells;obtain⟨f0,f1,f2,f3,f4,f5,f6,f7,f8⟩:=HT3.o.bH;obtain⟨y0,y1,y2,y3,y4,fq,y6,lL,nE⟩:=aB.cells;clear aB;simp only[ag.goto]at y0 y1 y2 y3 y4 fq y6 lL nE;go_wp2_with fail
   exact bodyPost_ret (oI (HT3.o.gY (t.goto k)) _ _ false 2 3 TA rfl rfl) rfl ⟨grownBy.j4 eQ.o (ah _) _ _ _ _ _ _ _ _ _,.inr ⟨rfl,t.goto k,rfl⟩⟩
def zm:Enc ag 9:={ f:=fun t=>(oM t).toList,len:=fun _=>rfl,one:=fun t u hu=>ag8 t u hu }
theorem Elem.tok:∃n,n≤100∧Elem Tryz.prog 63 71 9 n:=⟨80,by omega,Tryz.underlying63,⟨.agg jF,by kernel_rfl,rfl⟩,by decide⟩
abbrev rq(w:World)(base:Nat)(v:Value)(ts:List ag):Prop:=Own zm 71 w base v ts
def kX(s:ByteArray)(p:Nat):Option (List ag):=eB (aA s p).length p (aA s p)
theorem Rf(s:ByteArray):fT (sb s)=kX s 0:=rfl
theorem Rj (s:ByteArray)(p:Nat)(h:s.size≤p):kX s p=some [ag.zero.goto p]:=by
 unfold kX;rw[DJ s p h];unfold eB;rfl
theorem Ri (s:ByteArray)(p:Nat)(h:p<s.size)(ha:((s[p].toNat:Nat):Int)=32):kX s p=kX s (p+1):=by
 unfold kX;rw[mG s p h,ha,aO,rC,if_pos rfl]
theorem KJ (s:ByteArray):∀(m p:Nat),(∀x∈(aA s p).take m,nN x=true)→p+m≤s.size→kX s p=kX s (p+m)
 | 0,_,_,_=>rfl
 | m + 1,p,h,hm=>by
   have hp:p<s.size:=by omega
   rw[mG s p hp]at h
   have h0:((s[p].toNat:Nat):Int)=32:=by
    have:=h ((s[p].toNat:Nat):Int) (by simp);unfold nN at this;simpa using this
   rw[Ri s p hp h0,KJ s m (p+1) (fun x hx=>h x (by simp[hx])) (by omega),show p+1+m=p+(m+1)from by omega]
theorem Rk (s:ByteArray)(p:Nat)(h:p<s.size)(h32:¬ ((s[p].toNat:Nat):Int)=32)(ht:eO (aA s p)=none):kX s p=none:=by
 unfold kX;rw[mG s p h]at ht ⊢;rw[aO,rC,if_neg h32,ht]
theorem Rl (s:ByteArray)(p:Nat)(h:p<s.size)(h32:¬ ((s[p].toNat:Nat):Int)=32)(t:ag)(n:Nat)(ht:eO (aA s p)=some (t,n)):kX s p=(kX s (p+n)).map (t.goto p :: ·):=by
 have hn:=qK _ _ _ ht;have hd:=TB s p n;unfold kX;rw[mG s p h]at ht hd hn ⊢;rw[aO,rC,if_neg h32,ht];simp only;rw[hd,FY _ (aA s (p+n)).length _ _ (by rw[ny,ny];omega) (ah _)]
theorem Uu (p:Int→Bool)(l:List Int):∀x∈l.take (l.takeWhile p).length,p x=true:=by
 have e:=take_split p l
 have h:l.take (l.takeWhile p).length=l.takeWhile p:=by
  have h0:(l.takeWhile p++l.drop (l.takeWhile p).length).take (l.takeWhile p).length=l.takeWhile p:=List.take_left;rw[e]at h0;exact h0
 rw[h];exact tC p l
theorem Un (s:ByteArray)(p q:Nat)(hq:p+((aA s p).takeWhile nN).length=q)(h:q<s.size):¬ ((s[q].toNat:Nat):Int)=32:=by
 have h1:=DY nN (aA s p);rw[TB,hq,mG s q h]at h1;have:=h1 _ rfl;unfold nN at this;simpa using this
theorem Uo (s:ByteArray)(p:Nat)(h:p≤s.size):p+((aA s p).takeWhile nN).length≤s.size:=by
 have:=Al nN (aA s p);rw[ny]at this;omega
theorem Vars.lt {w:World}(h:Vars w):max 8 1<w.heap.size:=by
 have hs:=h.sig.lt;obtain⟨ev,h1,_⟩:=h.err
 have hr:8<w.heap.size:=by
  rcases Nat.lt_or_ge 8 w.heap.size with h'|h'
  · exact h'
  · exfalso;unfold World.cell? at h1;simp only at h1;rw[Array.getElem?_eq_none h']at h1;cases h1
 omega
theorem oh.no {b:Nat}{s:ByteArray}{k:Nat}{w w':World}{e:Ending}(h:oh none b s k w e w'):w.grownBy w' (some b)∧∃t:ag,e = .returned (.tuple #[.agg #[.int .i64 t.kind,.string t.text,.int .i64 t.num,.string t.sh,.int .i64 t.c,.int .i64 t.r,.bool t.ac,.bool t.ar,.int .i64 t.pos],.bool false]):=by
 rcases h.lit with ⟨h1,⟨t,n,h2,_⟩|⟨_,h2⟩⟩
 · cases h2
 · exact⟨h1,h2⟩
theorem oh.yes {b:Nat}{s:ByteArray}{k n:Nat}{t:ag}{w w':World}{e:Ending}(h:oh (some (t,n)) b s k w e w'):w.grownBy w' (some b)∧e = .returned (.tuple #[.agg #[.int .i64 t.kind,.string t.text,.int .i64 t.num,.string t.sh,.int .i64 t.c,.int .i64 t.r,.bool t.ac,.bool t.ar,.int .i64 t.pos],.bool true])∧bL w' b s (k+n):=by
 rcases h.lit with ⟨h1,⟨t',n',h2,h3,h4⟩|⟨h2,_⟩⟩
 · injection h2 with h2;injection h2 with h2 h5;subst h2;subst h5;exact⟨h1,h3,h4⟩
 · cases h2
def NZ (s:ByteArray)(w:World)(e:Ending)(w':World):Prop :=
 Below w.heap.size w w'∧((300<s.size∧e = .returned (.tuple #[.slice none 0 0,.int .i64 4]))∨(s.size≤300∧fT (sb s)=none∧e = .returned (.tuple #[.slice none 0 0,.int .i64 5])) ∨
  (s.size≤300∧∃ts v,fT (sb s)=some ts∧e = .returned (.tuple #[v,.int .i64 0])∧rq w' w.heap.size v ts))
theorem abO (s:ByteArray)(w:World)(h:300<s.size):Calls Tryz.prog 59 #[.string s] w (NZ s w):=by
 have hi:(300:Int)<(s.size:Int):=by omega
 go_enter Tryz.func59,Tryz.ntmps59;go_wp2_with fail
 go_ret2
 exact⟨ai _ _,.inl ⟨h,rfl⟩⟩
theorem KL (s:ByteArray)(w:World)(hv:Vars w):Calls Tryz.prog 59 #[.string s] w (NZ s w):=by
 by_cases qj:300<s.size
 · exact abO s w qj
 have hi:¬ (300:Int)<(s.size:Int):=by omega
 have hs0:s.size≤1000000:=by omega
 obtain⟨eb,jK,bV⟩:=Elem.tok;have jH:=ae bV;clear bV;have hb2:=hv.lt;have dH:=ae hv;clear hv;have hsk:=Um w.heap.size s 0 _ (bL.new w s) hs0 (by omega);rw[Nat.zero_add]at hsk;obtain⟨p0,hp0⟩:∃p0,((aA s 0).takeWhile nN).length=p0:=⟨_,rfl⟩;rw[hp0]at hsk;have kN:=ae hsk;clear hsk;have Ql:=Uo s 0 (dV _);rw[Nat.zero_add,hp0]at Ql
 have Co:=ae (show fT (sb s)=(kX s p0).map (([]:List ag) ++ ·)by
  have:=KJ s p0 0 (by rw[← hp0];exact Uu _ _) (by omega);rw[Rf,this,Nat.zero_add];cases kX s p0 <;> rfl)
 have HH0:=ae (fun h=>Un s 0 p0 (by rw[hp0];omega) h);clear hp0;go_enter Tryz.func59,Tryz.ntmps59;go_wp2_with (go_at_call 84;((with_reducible refine kN.o.mono ?_);rintro e w1 ⟨h1,rfl,h2⟩;have HB:=ae (uq ((ai _ _).alloc (ah _) _) h1 (by simp) (ah _));have HR:=ae h2;clear h1 h2))
 go_loopw [5] (fun v wr=>∃(p:Nat)(acc:List ag),p≤s.size∧acc.length≤p∧Hid (fT (sb s)=(kX s p).map (acc ++ ·))∧Hid (∀h:p<s.size,¬ ((s[p].toNat:Nat):Int)=32)∧Hid (bL wr w.heap.size s p)∧Hid (rq wr (w.heap.size+1) v acc)∧Hid (Below w.heap.size w wr))
  (fun _ wr=>mE w.heap.size s.size wr)
 case atStart=>exact⟨p0,[],Ql,by simp,Co,HH0,HR,ae (Own.nil _ _ _ _),HB⟩
 case round =>
  clear Co HH0 kN HR HB;obtain⟨p,acc,hps,hal,HL,HH,HR,HO,HB⟩:=hrel;obtain⟨c0,c1⟩:=HR.o.facts;have xI:=ae (HR.o.mE s.size);by_cases hlt:p<s.size
  · have kE:(p:Int)<(s.size:Int):=by omega
    have hT:=ahb w.heap.size s p wr HR.o hs0 hlt hb2 (dH.o.below HB.o);cases hq:eO (aA s p)with
    | none =>
      rw[hq]at hT;have HT:=ae hT;clear hT;have HN:=ae (show fT (sb s)=none by rw[HL.o,Rk s p hlt (HH.o hlt) hq];rfl);clear hq;go_wp2_with (go_at_call 85;((with_reducible refine HT.o.mono ?_);intro e w1 he;obtain⟨h1,t,rfl⟩:=oh.no he;have HB1:=ae (uq HB.o h1 HB.o.size (ah _));clear h1 he))
      go_ret2
      exact⟨HB1.o.alloc HB1.o.size _,.inr (.inl ⟨by omega,HN.o,rfl⟩)⟩
    | some q =>
      obtain⟨t0,n0⟩:=q;rw[hq]at hT;obtain⟨t1,ht1⟩:∃t1,t0.goto p=t1:=⟨_,rfl⟩;have hT:Calls Tryz.prog 85 #[.pointer (some ⟨w.heap.size,0,none⟩)] wr (oh (some (t1,n0)) w.heap.size s p wr):=by rw[← ht1];exact hT
      have HT:=ae hT;clear hT;have hn0:=qK _ _ _ hq;rw[ny]at hn0
      have xG:=ae (show fT (sb s)=(kX s (p+n0)).map ((acc++[t1]) ++ ·)by
       rw[← ht1,HL.o,Rl s p hlt (HH.o hlt) t0 n0 hq,Option.map_map];congr 1;funext l;simp)
      clear hq HL HH ht1;have zD:p+n0≤s.size:=by omega
      go_upto_region 11 with (go_at_call 85;((with_reducible refine HT.o.mono ?_);intro e w1 he;obtain⟨h1,rfl,h2⟩:=oh.yes he;have HB1:=ae (uq HB.o h1 HB.o.size (ah _));have fB:=ae (Own.other HO.o h1 (Nat.lt_succ_self _));have HR1:=ae h2;clear h1 h2 he))
      have hB3:Below w1.heap.size w1 (w1.alloc (.cells #[.int .i64 t1.kind,.string t1.text,.int .i64 t1.num,.string t1.sh,.int .i64 t1.c,.int .i64 t1.r,.bool t1.ac,.bool t1.ar,.int .i64 t1.pos] 71)):=(ai _ _).alloc (ah _) _;have aB:aC (w1.alloc (.cells #[.int .i64 t1.kind,.string t1.text,.int .i64 t1.num,.string t1.sh,.int .i64 t1.c,.int .i64 t1.r,.bool t1.ac,.bool t1.ar,.int .i64 t1.pos] 71)) w1.heap.size t1:=aC.new w1 t1;have HR3:=ae (HR1.o.below hB3 HR1.o.lt);have fZ:=ae (fB.o.alloc (.cells #[.int .i64 t1.kind,.string t1.text,.int .i64 t1.num,.string t1.sh,.int .i64 t1.c,.int .i64 t1.r,.bool t1.ac,.bool t1.ar,.int .i64 t1.pos] 71));have HB3:=ae (HB1.o.trans (hB3.mono HB1.o.size));clear hB3 HT HB1 fB HR1 HB HO HR c0 c1;generalize w1.alloc (.cells #[.int .i64 t1.kind,.string t1.text,.int .i64 t1.num,.string t1.sh,.int .i64 t1.c,.int .i64 t1.r,.bool t1.ac,.bool t1.ar,.int .i64 t1.pos] 71)=w3 at HR3 aB fZ HB3 ⊢;obtain⟨y0,y1,y2,y3,y4,fq,y6,lL,nE⟩:=aB.cells;clear aB;go_upto_region 7 with (at_builtin;refine nC jH.o zm rfl (.tmp 32) (.tmp 34) rfl (w.heap.size+1) _ _ rfl (fZ.o.alloc _) ⟨_,0,none⟩ 1 1 [t1] rfl rfl ?_ ?_ ?_ ?_ ?_;exact gQ _ _ _ rfl;exact bF (Nat.mul_le_mul_left _ jK) (by omega);(unfold maxLen;omega);(have:=HR3.o.lt;simp <;> omega);intro v' nD h1 h2;have oQ:=ae h1;have ku:=ae (((ai (w.heap.size+1) _).alloc (by have:=HR3.o.lt;omega) _).trans h2);clear h1 h2)
      have HR4:=ae (HR3.o.below ku.o (Nat.lt_succ_self _));have dJ:=ae (HB3.o.trans (ku.o.mono (Nat.le_succ _)));have Kl:=Um w.heap.size s (p+n0) nD HR4.o hs0 zD;obtain⟨q,hq⟩:∃q,p+n0+((aA s (p+n0)).takeWhile nN).length=q:=⟨_,rfl⟩;rw[hq]at Kl;have Wj:=ae Kl;clear Kl;have Kj:=Uo s (p+n0) zD;rw[hq]at Kj
      have VF:=ae (show fT (sb s)=(kX s q).map ((acc++[t1]) ++ ·)by
       rw[xG.o, ← hq];have:=KJ s _ (p+n0) (Uu nN _) (by rw[hq];exact Kj);rw[this])
      have yT:=ae (fun h=>Un s (p+n0) q hq h);have hpq:p<q:=by omega
      clear hq xG;go_wp2_with (go_at_call 84;((with_reducible refine Wj.o.mono ?_);rintro e w5 ⟨h1,rfl,h2⟩;have eP:=ae (uq dJ.o h1 dJ.o.size (ah _));have vo:=ae (Own.other oQ.o h1 (Nat.lt_succ_self _));have vz:=ae h2;clear h1 h2))
      go_roundw
      case rel=>exact⟨q,acc++[t1],Kj,by simp;omega,VF,yT,vz,vo,eP⟩
      case measure =>
       have h1:=vz.o.mE s.size;rw[xI.o,h1];omega
  · have kE:¬ (p:Int)<(s.size:Int):=by omega
    have HN:=ae (show fT (sb s)=some (acc++[ag.zero.goto p])by rw[HL.o,Rj s p (by omega)];rfl);clear HL HH;go_wp2_with (at_builtin;refine nC jH.o zm rfl (.tmp 36) (.tmp 42) rfl (w.heap.size+1) _ _ rfl (HO.o.alloc _) ⟨_,0,none⟩ 1 1 [ag.zero.goto p] rfl rfl ?_ ?_ ?_ ?_ ?_;exact gQ _ _ _ rfl;exact bF (Nat.mul_le_mul_left _ jK) (by omega);(unfold maxLen;omega);(have:=HR.o.lt;simp <;> omega);intro v' nD h1 h2;have oQ:=ae h1;have ku:=ae (((ai (w.heap.size+1) _).alloc (by have:=HR.o.lt;omega) _).trans h2);clear h1 h2)
    go_ret2
    exact⟨HB.o.trans (ku.o.mono (by have:=HR.o.lt;omega)),.inr (.inr ⟨by omega,_,_,HN.o,rfl,oQ.o.mono (by omega)⟩)⟩
theorem rq.cell {w:World}{base g n cap:Nat}{ts:List ag}(h:rq w base (.slice (some ⟨g,0,none⟩) n cap) ts)(i:Nat)(t:ag)(hi:ts[i]? = some t)(j:Nat)(hj:j<9):w.cell? ⟨g,i*9+j,none⟩=(oM t).toList[j]? := by
 have hl:(oM t).toList.length=9:=rfl;have hu:(zm.f t)[j]? = some ((oM t).toList[j]'(by omega)):=dm _;have:=Own.cells h (i*9+j) _ (by rw[zm.at ts i j t hi hj];exact hu);rw[this];exact hu.symm
theorem Rm (s:ByteArray)(w:World)(hv:Vars w)(hs:s.size≤300)(ts:List ag)(hl:fT (sb s)=some ts)(hne:0<ts.length) :
 Calls Tryz.prog 59 #[.string s] w fun e w'=>Below w.heap.size w w'∧∃g cap,e = .returned (.tuple #[.slice (some ⟨g,0,none⟩) ts.length cap,.int .i64 0])∧w.heap.size≤g∧g<w'.heap.size∧rq w' w.heap.size (.slice (some ⟨g,0,none⟩) ts.length cap) ts:=by
 refine(KL s w hv).mono ?_;rintro e w' ⟨hb,h|⟨_,h,_⟩|⟨_,ts',v,h1,rfl,h2⟩⟩
 · omega
 · rw[hl]at h;cases h
 · rw[hl]at h1;injection h1 with h1;subst h1
   obtain⟨g,cap,rfl,h3,h4,_,_⟩:=Own.some h2 hne;exact⟨hb,g,cap,rfl,h3,h4,h2⟩
theorem Rn (s:ByteArray)(w:World)(hv:Vars w)(hs:s.size≤300)(hl:fT (sb s)=none) :
 Calls Tryz.prog 59 #[.string s] w fun e w'=>Below w.heap.size w w'∧e = .returned (.tuple #[.slice none 0 0,.int .i64 5]):=by
 refine(KL s w hv).mono ?_;rintro e w' ⟨hb,h|⟨_,_,rfl⟩|⟨_,ts',v,h1,_⟩⟩
 · omega
 · exact⟨hb,rfl⟩
 · rw[hl]at h1;cases h1
structure az where
 n:Nd
 g:Option (Nat × Nat)
def az.aS (v:az):Value:=match v.g with
 | none => .slice none 0 0
 | some (g,c) => .slice (some ⟨g,0,none⟩) v.n.kids.length c
def bJ(n:Nd)(k:Value):Array Value:=#[.int .i64 n.kind,.int .i64 n.num,.string n.text,.string n.ref.sh,.int .i64 n.ref.c,.int .i64 n.ref.r,.bool n.ref.ac,.bool n.ref.ar,.string n.af.sh,.int .i64 n.af.c,.int .i64 n.af.r,.bool n.af.ac,.bool n.af.ar,k]
theorem az.one (v:az):v.aS.oneCell'=true:=by
 unfold az.aS;split <;> rfl
theorem Gh (n:Nd)(k:Value)(hk:k.oneCell'=true):∀u∈(bJ n k).toList,u.oneCell'=true:=by
 intro v hv;simp only[bJ,List.mem_cons,List.not_mem_nil,or_false]at hv;rcases hv with rfl|rfl|rfl|rfl|rfl|rfl|rfl|rfl|rfl|rfl|rfl|rfl|rfl|rfl
 all_goals first|rfl|exact hk
def o8:Enc az 14:={ f:=fun v=>(bJ v.n v.aS).toList,len:=fun _=>rfl,one:=fun v u hu=>Gh _ _ v.one u hu }
def jI(w:World)(lo:Nat)(nv:Value)(vs:List az):Prop:=Own o8 45 w lo nv vs∧∀v∈vs,Own (aK .i64) 3 w lo v.aS v.n.kids
theorem jI.keep {w w':World}{lo:Nat}{nv:Value}{vs:List az}(h:jI w lo nv vs)(hk:∀g,lo≤g→g<w.heap.size→w'.heap[g]? = w.heap[g]?):jI w' lo nv vs :=
 ⟨h.1.keep fun g a b _=>hk g a b,fun v hv=>(h.2 v hv).keep fun g a b _=>hk g a b⟩
theorem jI.nil(w:World)(lo:Nat):jI w lo (.slice none 0 0) []:=⟨Own.nil _ _ _ _,fun v hv=>absurd hv (by simp)⟩
def AX(w:World)(k:Nat):Prop:=∃cur fr,w.heap[k]? = some (.cells cur 45 fr)
structure Fr (w w':World)(b:Nat):Prop where
 os:w'.os=w.os
 tape:w'.tape=w.tape
 output:w'.output=w.output
 size:w.heap.size≤w'.heap.size
 block:∀k,k<w.heap.size→k≠b→(k<b∨¬ AX w k)→w'.heap[k]? = w.heap[k]?
theorem Fr.refl(w:World)(b:Nat):Fr w w b:=⟨rfl,rfl,rfl,ah _,fun _ _ _ _=>rfl⟩
theorem Fr.trans {w w1 w2:World}{b:Nat}(h:Fr w w1 b)(k:Fr w1 w2 b):Fr w w2 b :=
 ⟨k.os.trans h.os,k.tape.trans h.tape,k.output.trans h.output,bF h.size k.size,fun j hj hb hr=>by
  have h1:=h.block j hj hb hr;rw[k.block j (dY hj h.size) hb (hr.imp id fun hn ⟨cur,fr,e⟩=>hn ⟨cur,fr,by rw[← h1];exact e⟩)];exact h1⟩
theorem Fr.below {w w1 w2:World}{b:Nat}(h:Fr w w1 b)(k:Below w1.heap.size w1 w2):Fr w w2 b :=
 ⟨k.os.trans h.os,k.tape.trans h.tape,k.output.trans h.output,bF h.size k.size,fun j hj hb hr=>by
  rw[k.block j (dY hj h.size)];exact h.block j hj hb hr⟩
theorem Fr.of{w w1:World}(b:Nat)(k:Below w.heap.size w w1):Fr w w1 b:=(Fr.refl w b).below k
theorem Fr.setCell {w w1:World}{b:Nat}(h:Fr w w1 b)(o:Nat)(v:Value):Fr w (w1.setCell ⟨b,o,none⟩ v) b :=
 ⟨h.os,h.tape,h.output,by simpa using h.size,fun j hj hb hr=>by
  rw[fO _ _ _ _ (by intro e;exact hb e)];exact h.block j hj hb hr⟩
theorem Fr.drew{w w1:World}{b:Nat}(h:Fr w w1 b):Fr w w1.drew b:=⟨h.os,h.tape,h.output,h.size,h.block⟩
theorem Fr.row {w w1 w2:World}{b:Nat}{r:Option Nat}(h:Fr w w1 b)(k:w1.grownBy w2 r)(hr:∀g,r=some g→b<g∧(w.heap.size≤g∨AX w1 g)):Fr w w2 b :=
 ⟨k.os.trans h.os,k.tape.trans h.tape,k.output.trans h.output,bF h.size k.size,fun j hj hb hc=>by
  have h1:=h.block j hj hb hc
  rw [k.block j (dY hj h.size) (by
   intro e;obtain⟨h2,h3⟩:=hr j e.symm;rcases h3 with h3|⟨cur,fr,h3⟩
   · omega
   · rcases hc with hc|hc
     · omega
     · exact hc ⟨cur,fr,by rw[← h1];exact h3⟩)]
  exact h1⟩
theorem Fr.toBelow {w w':World}{B b:Nat}(h:Fr w w' b)(hb:B≤b)(hB:B≤w.heap.size):Below B w w' :=
 ⟨h.os,h.tape,h.output,h.size,fun j hj=>h.block j (by omega) (by omega) (.inl (by omega))⟩
theorem Own.fr {α : Type}{size:Nat}{E:Enc α size}{e:TypeId}{w w':World}{base b:Nat}{v:Value}{xs:List α}(h:Own E e w base v xs)(hf:Fr w w' b)(hb:b<base)(he:e≠45):Own E e w' base v xs:=by
 refine⟨h.1, ?_⟩;rcases h.2 with h|⟨g,cap,cur,h1,h2,h3,h4⟩
 · exact .inl h
 · refine .inr ⟨g,cap,cur,h1,h2, ?_,h4⟩
   rw [hf.block g (dO.1 h3).1 (by omega) (.inr (by
    rintro⟨c,fr,e2⟩;rw[h3]at e2;injection e2 with e2;injection e2 with _ e2;exact he e2))];exact h3
def zf(w:World)(b:Nat)(tv:Value)(ts:List ag):Prop:=∃g cap,tv = .slice (some ⟨g,0,none⟩) ts.length cap∧g<b∧rq w 0 tv ts
def qE:List (ByteArray × Nat × Int):=[(⟨#[61]⟩,0,9),(⟨#[60,62]⟩,0,10),(⟨#[60]⟩,0,11),(⟨#[60,61]⟩,0,12),(⟨#[62]⟩,0,13),(⟨#[62,61]⟩,0,14),(⟨#[38]⟩,1,15),(⟨#[43]⟩,2,16),(⟨#[45]⟩,2,17),(⟨#[42]⟩,3,18),(⟨#[47]⟩,3,19)]
def Aa:Array Value:=(qE.flatMap fun p=>[.string p.1,.int .i64 (p.2.1:Int),.int .i64 p.2.2]).toArray
def mQ(w:World):Prop:=∃ty fr,w.heap[(2:Nat)]? = some (.cells Aa ty fr)
theorem mQ.lt{w:World}(h:mQ w):2<w.heap.size:=by obtain⟨_,_,h⟩:=h;exact(dO.1 h).1
theorem mQ.keep{w w':World}(h:mQ w)(hk:w'.heap[(2:Nat)]? = w.heap[(2:Nat)]?):mQ w':=by obtain⟨ty,fr,h⟩:=h;exact⟨ty,fr,by rw[hk];exact h⟩
theorem mQ.below{w w':World}(h:mQ w)(hb:Below w.heap.size w w'):mQ w':=h.keep (hb.block _ h.lt)
structure bN (w:World)(b:Nat)(tv:Value)(ts:List ag)(p deep:Nat)(nv:Value)(vs:List az):Prop where
 cell:w.heap[b]? = some (.cells #[tv,.int .i64 (p:Int),.int .i64 (deep:Int),nv] 113)
 pU:zf w b tv ts
 nodes:jI w (b+1) nv vs
 ops:mQ w
 lt:p<ts.length
 low:max 8 2<b
 fit:Fit ts
 few:ts.length≤1000
 cnt:vs.length≤p
 nest:deep≤12
section
variable {w:World} {b:Nat} {tv:Value} {ts:List ag} {p deep:Nat} {nv:Value} {vs:List az}
theorem bN.blt(h:bN w b tv ts p deep nv vs):b<w.heap.size:=(dO.1 h.cell).1
theorem bN.below {w':World}(h:bN w b tv ts p deep nv vs)(hb:Below w.heap.size w w'):bN w' b tv ts p deep nv vs:=by
 have hl:=h.blt;refine⟨by rw[hb.block b hl];exact h.cell, ?_,h.nodes.keep fun g _ hg=>hb.block g hg,h.ops.below hb,h.lt,h.low,h.fit,h.few,h.cnt,h.nest⟩;obtain⟨g,cap,h1,h2,h3⟩:=h.pU;exact⟨g,cap,h1,h2,h3.keep fun g _ hg _=>hb.block g hg⟩
theorem bN.facts (h:bN w b tv ts p deep nv vs):w.cell? ⟨b,0,none⟩=some tv∧w.cell? ⟨b,1,none⟩=some (.int .i64 (p:Int))∧w.cell? ⟨b,2,none⟩=some (.int .i64 (deep:Int))∧w.cell? ⟨b,3,none⟩=some nv :=
 ⟨by rw[cell_of_row w b 0 _ _ _ h.cell];rfl,by rw[cell_of_row w b 1 _ _ _ h.cell];rfl,by rw[cell_of_row w b 2 _ _ _ h.cell];rfl,by rw[cell_of_row w b 3 _ _ _ h.cell];rfl⟩
theorem bN.frozen(h:bN w b tv ts p deep nv vs)(j:Nat):w.frozen? ⟨b,j,none⟩=false:=frozen_of_row w b j _ _ h.cell
theorem zf.set (h:zf w b tv ts)(o:Nat)(v:Value):zf (w.setCell ⟨b,o,none⟩ v) b tv ts:=by
 obtain⟨g,cap,h1,h2,h3⟩:=h;refine⟨g,cap,h1,h2,h3.keep fun j _ _ hj=>fO _ _ _ _ ?_⟩;rw[h1]at hj;injection hj with hj;show j≠b;have:g=j:=hj;omega
theorem jI.set {c:Nat}(h:jI w (b+1) nv vs)(hc:c<b+1)(o:Nat)(v:Value):jI (w.setCell ⟨c,o,none⟩ v) (b+1) nv vs :=
 h.keep fun j hj _=>fO _ _ _ _ (by show j≠c;omega)
theorem mQ.set(h:mQ w)(hb:max 8 2<b)(o:Nat)(v:Value):mQ (w.setCell ⟨b,o,none⟩ v):=h.keep (fO _ _ _ _ (by show 2≠b;omega))
theorem bN.L8 (h:bN w b tv ts p deep nv vs)(m:Nat)(hm:m<ts.length)(hp:p≤m):bN (w.setCell ⟨b,1,none⟩ (.int .i64 (m:Int))) b tv ts m deep nv vs :=
 ⟨by rw[heap_setCell_same w b 1 _ _ _ h.cell];rfl,h.pU.set _ _,h.nodes.set (by omega) _ _,h.ops.set h.low _ _,hm,h.low,h.fit,h.few,by have:=h.cnt;omega,h.nest⟩
theorem bN.next(h:bN w b tv ts p deep nv vs)(hm:p+1<ts.length):bN (w.setCell ⟨b,1,none⟩ (.int .i64 ((p:Int)+1))) b tv ts (p+1) deep nv vs:=h.L8 (p+1) hm (by omega)
theorem bN.pK (h:bN w b tv ts p deep nv vs)(m:Nat)(hm:m≤12):bN (w.setCell ⟨b,2,none⟩ (.int .i64 (m:Int))) b tv ts p m nv vs :=
 ⟨by rw[heap_setCell_same w b 2 _ _ _ h.cell];rfl,h.pU.set _ _,h.nodes.set (by omega) _ _,h.ops.set h.low _ _,h.lt,h.low,h.fit,h.few,h.cnt,hm⟩
theorem bN.drew(h:bN w b tv ts p deep nv vs):bN w.drew b tv ts p deep nv vs:=⟨h.cell,h.pU,h.nodes,h.ops,h.lt,h.low,h.fit,h.few,h.cnt,h.nest⟩
theorem bN.tok (h:bN w b tv ts p deep nv vs):∃g cap t,tv = .slice (some ⟨g,0,none⟩) ts.length cap∧ts[p]? = some t∧ts.drop p=t :: ts.drop (p+1)∧g<w.heap.size∧w.cell? ⟨g,p*9,none⟩=some (.int .i64 t.kind)∧w.cell? ⟨g,p*9+1,none⟩=some (.string t.text)∧w.cell? ⟨g,p*9+2,none⟩=some (.int .i64 t.num)∧w.cell? ⟨g,p*9+3,none⟩=some (.string t.sh)∧w.cell? ⟨g,p*9+4,none⟩=some (.int .i64 t.c)∧w.cell? ⟨g,p*9+5,none⟩=some (.int .i64 t.r)∧w.cell? ⟨g,p*9+6,none⟩=some (.bool t.ac)∧w.cell? ⟨g,p*9+7,none⟩=some (.bool t.ar)∧w.cell? ⟨g,p*9+8,none⟩=some (.int .i64 t.pos):=by
 obtain⟨g,cap,h1,h2,h3⟩:=h.pU;have hl:=h.lt;rw[h1]at h3;have hc:=fun j hj=>rq.cell h3 p _ (dm hl) j hj
 exact⟨g,cap,ts[p],h1,dm hl,List.drop_eq_getElem_cons hl,by have:=h.blt;omega,hc 0 (by omega),hc 1 (by omega),hc 2 (by omega),hc 3 (by omega),hc 4 (by omega),hc 5 (by omega),hc 6 (by omega),hc 7 (by omega),hc 8 (by omega)⟩
end
theorem Fit.next {ts:List ag}{p:Nat}{t:ag}(h:Fit ts)(ht:ts[p]? = some t)(hk:t.kind≠0):p+1<ts.length:=by
 obtain⟨body,e,rfl,he,_⟩:=h;have hp:=(dW.1 ht).1;rw[ak,fK]at hp ⊢;rcases Nat.lt_or_ge p body.length with h1|h1
 · omega
 · exfalso
   rw[List.getElem?_append_right h1,show p - body.length=0 from by omega]at ht;simp at ht;subst ht;exact hk he
def vR(b n:Nat)(w:World):Nat:=n - (match w.cell? ⟨b,1,none⟩with|some (.int _ m)=>m.toNat|_=>0)
theorem bN.vR {w:World}{b:Nat}{tv:Value}{ts:List ag}{p deep:Nat}{nv:Value}{vs:List az}(h:bN w b tv ts p deep nv vs)(n:Nat):vR b n w=n - p:=by
 unfold Go.Proofs.YtaobhjliflomaaaGreatDoor.vR;rw[h.facts.2.1];rfl
theorem aeO:Tryz.f61.results=#[.cell 2 71]:=by kernel_rfl
theorem adw {w:World}{b:Nat}{t:ag}(h:aC w b t)(fn:Func)(tmps:Array Value)(p:Tmp)(hf:fn.results=#[.cell p 71])(hp:tmps.getD p undef = .pointer (some ⟨b,0,none⟩)) :
 (results fn tmps).run Tryz.prog w = .ok (.agg (oM t)) w:=results_cell_row hf tmps w b 71 _ _ _ hp h Tryz.underlying71 rfl UL
theorem Gu {w:World}{b:Nat}{tv:Value}{ts:List ag}{p deep:Nat}{nv:Value}{vs:List az}(h:bN w b tv ts p deep nv vs)(t:ag)(ht:ts[p]? = some t) :
 Calls Tryz.prog 61 #[.pointer (some ⟨b,0,none⟩)] w fun e w'=>e = .returned (.agg #[.int .i64 t.kind,.string t.text,.int .i64 t.num,.string t.sh,.int .i64 t.c,.int .i64 t.r,.bool t.ac,.bool t.ar,.int .i64 t.pos])∧Below w.heap.size w w':=by
 have hal:Below w.heap.size w (w.alloc (.cells jF 71)):=(ai _ _).alloc (ah _) _;have h1:=h.below hal;obtain⟨c0,c1,c2,c3⟩:=h1.facts;obtain⟨g,cap,t',rfl,ht', -,hg,k0,k1,k2,k3,k4,k5,k6,k7,k8⟩:=h1.tok;rw[ht]at ht';injection ht' with ht';subst ht';have hlt:=h.lt;have hi1:(0:Int)≤(p:Int):=by omega
 have hi2:(p:Int)<(ts.length:Int):=by omega
 obtain⟨n,hn⟩:∃n,ts.length=n:=⟨_,rfl⟩;rw[hn]at hi2 c0;have aM:=aC.zero w;obtain⟨x0,x1,x2,x3,x4,x5,x6,x7,av⟩:=aM.cells;obtain⟨f0,f1,f2,f3,f4,f5,f6,f7,f8⟩:=aM.bH;have aM:=ae aM;have aU:=ae hal;clear h h1 hal c2 c3 ht hlt hn;go_enter Tryz.func61,Tryz.ntmps61;go_wp2_with fail
 go_region
 go_wp2_with fail
 exact bodyPost_ret (adw (aC.new w t).drew _ _ 2 aeO rfl) rfl ⟨rfl,((ai _ _).alloc (ah _) _).drew⟩
theorem GV{s:ByteArray}{ts:List ag}{p:Nat}{t:ag}(hd:ts.drop p=t :: ts.drop (p+1)):au s (ts.drop p)=(decide (t.kind=5)&&decide (t.text=s)):=by rw[hd];rfl
theorem zQ {w:World}{b:Nat}{tv:Value}{ts:List ag}{p deep:Nat}{nv:Value}{vs:List az}(h:bN w b tv ts p deep nv vs)(s:ByteArray) :
 Calls Tryz.prog 116 #[.pointer (some ⟨b,0,none⟩),.string s] w fun e w'=>e = .returned (.bool (au s (ts.drop p)))∧Below w.heap.size w w':=by
 obtain⟨g,cap,t, -,ht,hd, -⟩:=h.tok;have HT:=ae (Gu h t ht);have HS:=ae (GV (s:=s) hd);clear h ht hd;go_enter Tryz.func116,Tryz.ntmps116;go_upto_region 2 with (go_at_call 61;((with_reducible refine HT.o.mono ?_);rintro e w1 ⟨rfl,h1⟩;have HB:=ae h1;clear h1))
 have hB3:Below w1.heap.size w1 (w1.alloc (.cells #[.int .i64 t.kind,.string t.text,.int .i64 t.num,.string t.sh,.int .i64 t.c,.int .i64 t.r,.bool t.ac,.bool t.ar,.int .i64 t.pos] 71)):=(ai _ _).alloc (ah _) _;have aB:aC (w1.alloc (.cells #[.int .i64 t.kind,.string t.text,.int .i64 t.num,.string t.sh,.int .i64 t.c,.int .i64 t.r,.bool t.ac,.bool t.ar,.int .i64 t.pos] 71)) w1.heap.size t:=aC.new w1 t;have HB3:=ae (HB.o.trans (hB3.mono HB.o.size));clear hB3 HB;generalize w1.alloc (.cells #[.int .i64 t.kind,.string t.text,.int .i64 t.num,.string t.sh,.int .i64 t.c,.int .i64 t.r,.bool t.ac,.bool t.ar,.int .i64 t.pos] 71)=w3 at aB HB3 ⊢;obtain⟨x0,x1,x2,x3,x4,x5,x6,x7,av⟩:=aB.cells;clear aB;by_cases h5:t.kind=5
 · have e5:(t.kind == 5)=true:=beq_iff_eq.2 h5
   by_cases hs:t.text=s
   · have hs1:t.text.toList=s.toList:=by rw[hs]
     have gu:=ae (show au s (ts.drop p)=true by rw[HS.o,decide_eq_true h5,decide_eq_true hs];rfl);clear h5 hs;go_wp2_with fail
     go_ret;exact⟨by rw[gu.o];rfl,HB3.o⟩
   · have gu:=ae (show au s (ts.drop p)=false by rw[HS.o,decide_eq_true h5,decide_eq_false hs];rfl)
     have HE:=ae (show(t.text.toList == s.toList)=false from beq_eq_false_iff_ne.2 (pR _ _ hs));clear h5 hs;go_wp2_with fail
     go_ret;exact⟨by rw[gu.o];exact fD HE.o,HB3.o⟩
 · have e5:(t.kind == 5)=false:=beq_eq_false_iff_ne.2 h5
   have gu:=ae (show au s (ts.drop p)=false by rw[HS.o,decide_eq_false h5];rfl);clear h5;go_wp2_with fail
   go_ret;exact⟨by rw[gu.o];rfl,HB3.o⟩
theorem Aj {w:World}{b:Nat}{tv:Value}{ts:List ag}{p deep:Nat}{nv:Value}{vs:List az}(h:bN w b tv ts p deep nv vs){s:ByteArray}(hs:au s (ts.drop p)=true):p+1<ts.length:=by
 obtain⟨g,cap,t, -,ht,hd, -⟩:=h.tok;rw[GV hd,dA,decide_eq_true_iff]at hs;exact h.fit.next ht (by omega)
theorem ae0 {w:World}{b:Nat}{tv:Value}{ts:List ag}{p deep:Nat}{nv:Value}{vs:List az}(h:bN w b tv ts p deep nv vs)(hne:0<vs.length) :
 Calls Tryz.prog 119 #[.pointer (some ⟨b,0,none⟩)] w fun e w'=>e = .returned (.int .i64 ((vs.length:Int) - 1))∧w=w':=by
 obtain⟨c0,c1,c2,c3⟩:=h.facts;obtain⟨g,cap,rfl, -, -, -, -⟩:=Own.some h.nodes.1 hne;have h1:=h.cnt;have h2:=h.few;have h3:=h.lt;have hw1 : -9223372036854775808≤(vs.length:Int) - 1:=by omega
 have hw2:(vs.length:Int) - 1≤9223372036854775807:=by omega
 obtain⟨n,hn⟩:∃n,vs.length=n:=⟨_,rfl⟩;rw[hn]at c3 hw1 hw2 ⊢;clear h c0 c1 c2 h1 h2 h3 hne hn;go_enter Tryz.func119,Tryz.ntmps119;go_wp2_with fail
 go_ret;exact⟨rfl,rfl⟩
theorem Lh {w:World}{b:Nat}{tv:Value}{ts:List ag}{p deep:Nat}{nv:Value}{vs:List az}(h:bN w b tv ts p deep nv vs)(s:ByteArray) :
 Calls Tryz.prog 144 #[.pointer (some ⟨b,0,none⟩),.string s] w fun e w'=>Fr w w' b∧e = .returned (.bool (au s (ts.drop p)))∧bN w' b tv ts (if au s (ts.drop p)=true then p+1 else p) deep nv vs:=by
 have HS:=ae (zQ h s);have HP:=ae h;cases hq:au s (ts.drop p)
 · rw[hq]at HS
   clear h hq;go_enter Tryz.func144,Tryz.ntmps144;go_wp2_with (go_at_call 116;((with_reducible refine HS.o.mono ?_);rintro e w1 ⟨rfl,h1⟩;have HB:=ae h1;clear h1))
   go_ret;exact⟨Fr.of b HB.o,rfl,HP.o.below HB.o⟩
 · have hnx:=Aj h hq
   have h2:=h.few;rw[hq]at HS;clear h hq;go_enter Tryz.func144,Tryz.ntmps144;go_wp2_with (go_at_call 116;((with_reducible refine HS.o.mono ?_);rintro e w1 ⟨rfl,h1⟩;have HB:=ae h1;have bD:=ae (HP.o.below h1);clear h1;obtain⟨c0,c1,c2,c3⟩:=bD.o.facts;have f1:=bD.o.frozen 1))
   go_ret;exact⟨(Fr.of b HB.o).setCell _ _,rfl,bD.o.next hnx⟩
theorem yw {w:World}{b:Nat}{tv:Value}{ts:List ag}{p deep:Nat}{nv:Value}{vs:List az}(h:bN w b tv ts p deep nv vs)(hnx:p+1<ts.length) :
 Calls Tryz.prog 117 #[.pointer (some ⟨b,0,none⟩)] w fun e w'=>Fr w w' b∧((12≤deep∧e = .returned (.int .i64 6))∨(¬ 12≤deep∧e = .returned (.int .i64 0)∧bN w' b tv ts (p+1) (deep+1) nv vs)):=by
 obtain⟨c0,c1,c2,c3⟩:=h.facts;have f1:=h.frozen 1;have f2:=h.frozen 2;have hn:=h.nest;have hf:=h.few;have HP:=ae h;clear h;by_cases hd:12≤deep
 · have e12:((deep:Int) == 12)=true:=by rw[beq_iff_eq];omega
   go_enter Tryz.func117,Tryz.ntmps117;go_wp2_with fail
   go_ret;exact⟨Fr.refl _ _,.inl ⟨hd,rfl⟩⟩
 · have e12:((deep:Int) == 12)=false:=by rw[beq_eq_false_iff_ne];omega
   go_enter Tryz.func117,Tryz.ntmps117;go_wp2_with fail
   go_ret;exact⟨((Fr.refl _ _).setCell _ _).setCell _ _,.inr ⟨hd,rfl,(HP.o.pK (deep+1) (by omega)).next hnx⟩⟩
theorem SE {w:World}{b:Nat}{tv:Value}{ts:List ag}{p deep:Nat}{nv:Value}{vs:List az}(h:bN w b tv ts p (deep+1) nv vs) :
 Calls Tryz.prog 146 #[.pointer (some ⟨b,0,none⟩)] w fun e w'=>Fr w w' b∧((au ⟨#[41]⟩ (ts.drop p)=false∧e = .returned (.int .i64 5))∨(au ⟨#[41]⟩ (ts.drop p)=true∧e = .returned (.int .i64 0)∧bN w' b tv ts (p+1) deep nv vs)):=by
 have HT:=ae (Lh h ⟨#[41]⟩);have hn:=h.nest;clear h;cases hq:au ⟨#[41]⟩ (ts.drop p)
 · rw[hq]at HT
   clear hq;go_enter Tryz.func146,Tryz.ntmps146;go_wp2_with (go_at_call 144;((with_reducible refine HT.o.mono ?_);rintro e w1 ⟨h1,rfl,h2⟩;have HF:=ae h1;clear h1 h2))
   go_ret;exact⟨HF.o,.inl ⟨by trivial,rfl⟩⟩
 · rw [hq]at HT
   clear hq;go_enter Tryz.func146,Tryz.ntmps146;go_wp2_with (go_at_call 144;((with_reducible refine HT.o.mono ?_);rintro e w1 ⟨h1,rfl,h2⟩;rw[if_pos rfl]at h2;have HF:=ae h1;have bD:=ae h2;obtain⟨c0,c1,c2,c3⟩:=h2.facts;have f2:=h2.frozen 2;rw[show((deep+1:Nat):Int)=(deep:Int)+1 from rfl]at c2;clear h1 h2))
   go_ret;refine⟨HF.o.setCell _ _,.inr ⟨by trivial,rfl, ?_⟩⟩;have:=bD.o.pK deep (by omega)
   first
    | exact this
    | (rw[show(deep:Int)+1 - 1=(deep:Int)from by omega];exact this)
theorem afb {P:Program}{w:World}(t e:TypeId)(n sz:Nat)(cs:Array Value)(k:Nat)(v:Array Value)(d:TypeDesc)(h:P.underlying t=some (.array n e))(he:P.underlying e=some d)(hd:(match d with | .struct _ | .array _ _=>true|_=>false)=true)
 (hsz:(P.info? e).map (·.size)=some sz) (hk:k<n) (hv:cs.extract (k*sz) (k*sz+sz)=v):(Instr.index t (.agg cs) (.int .i64 (k:Int))).run P w = .ok (.agg v) w:=by
 have h1:(0:Int)≤(k:Int)∧(k:Int)<(n:Int):=by omega
 cases hq:P.info? e with
 | none=>simp[hq]at hsz
 | some i =>
   have hs':i.size=sz:=by simp[hq]at hsz;exact hsz
   simp[Instr.index,run_underlying h,asIntOf,h1,sizeOf,typeInfo,hq,hs',part,isAgg,run_underlying he,go_sem];cases d <;> simp_all
theorem ahH {P:Program}{ops:Array Oper}{rest:List Oper}{op:Oper}{a:Act}{w:World}{Q:Exit→Act→World→Prop}(hgd:op.guard=none)(t e:TypeId)(n sz:Nat)(x y:Operand)(ho:op.op = .index t x y)
 (cs:Array Value) (k:Nat) (v:Array Value) (d:TypeDesc) (h:P.underlying t=some (.array n e)) (he:P.underlying e=some d) (hd:(match d with | .struct _ | .array _ _=>true|_=>false)=true)
 (hsz:(P.info? e).map (·.size)=some sz) (hx:a.eval x = .agg cs) (hy:a.eval y = .int .i64 (k:Int)) (hk:k<n) (hv:cs.extract (k*sz) (k*sz+sz)=v)
 (hh:wpList P ops Q rest (a.put op.dst (.agg v)) w):wpList P ops Q (op :: rest) a w :=
 wpList_plain hgd fun _ hK=>by
  unfold Oper.wp execOp;simp only[ho,hx,hy,Sem.run_bind,Sem.run_pure,Result.andThen_ok,afb t e n sz cs k v d h he hd hsz hk hv];exact hK _ _ hh
theorem JK {α : Type}(f : α → Bool):∀(l:List α)(j:Nat)(x : α),l[j]? = some x→f x=true→(∀q y,q<j→l[q]? = some y→f y=false)→l.find? f=some x
 | [],j,x,h,_,_=>by simp at h
 | a :: l,0,x,h,hx,_=>by simp at h;subst h;rw[List.find?_cons,hx]
 | a :: l,j+1,x,h,hx,hn=>by
   rw[List.find?_cons,hn 0 a (by omega) rfl];exact JK f l j x (by simpa using h) hx fun q y hq hy=>hn (q+1) y (by omega) (by simpa using hy)
theorem JL {α : Type}(f : α → Bool):∀(l:List α),(∀(q:Nat) y,l[q]? = some y→f y=false)→l.find? f=none
 | [],_=>rfl
 | a :: l,h=>by rw[List.find?_cons,h 0 a rfl];exact JL f l fun q y hy=>h (q+1) y (by simpa using hy)
def pz(n:Nat)(ts:List ag)(q:ByteArray × Nat × Int):Bool:=decide (q.2.1=n)&&au q.1 ts
theorem Pk (n:Nat)(ts:List ag):∀L:List (ByteArray × Nat × Int),(((L.filter fun q=>decide (q.2.1=n)).map fun q=>(q.1,q.2.2)).find? fun p=>au p.1 ts)=(L.find? (pz n ts)).map fun q=>(q.1,q.2.2)
 | []=>rfl
 | a :: L=>by
   have ih:=Pk n ts L;by_cases h:a.2.1=n
   · rw[List.filter_cons,if_pos (by simpa using h),jr,List.find?_cons,List.find?_cons]
     have e:pz n ts a=au a.1 ts:=by unfold pz;rw[decide_eq_true h,Bool.true_and]
     rw[e];cases au a.1 ts
     · exact ih
     · rfl
   · rw[List.filter_cons,if_neg (by simpa using h),List.find?_cons]
     have e:pz n ts a=false:=by unfold pz;rw[decide_eq_false h,Bool.false_and]
     rw[e];exact ih
theorem abJ:∀n:Nat,n≤3→fC n=(qE.filter fun q=>decide (q.2.1=n)).map fun q=>(q.1,q.2.2)
 | 0,_=>rfl
 | 1,_=>rfl
 | 2,_=>rfl
 | 3,_=>rfl
 | n+4,h=>by omega
theorem adi (n:Nat)(ts:List ag)(h:n≤3):eH n ts=match qE.find? (pz n ts)with
 | some q=>q.2.2
 | none=>0:=by
 unfold eH;rw[abJ n h,Pk];cases qE.find? (pz n ts) <;> rfl
theorem ado:∀j:Nat,j<11→∃q:ByteArray × Nat × Int,qE[j]? = some q∧Aa.extract (j*3) (j*3+3)=#[.string q.1,.int .i64 (q.2.1:Int),.int .i64 q.2.2]∧q.2.1≤3
 | 0,_=>⟨_,rfl,rfl,by decide⟩
 | 1,_=>⟨_,rfl,rfl,by decide⟩
 | 2,_=>⟨_,rfl,rfl,by decide⟩
 | 3,_=>⟨_,rfl,rfl,by decide⟩
 | 4,_=>⟨_,rfl,rfl,by decide⟩
 | 5,_=>⟨_,rfl,rfl,by decide⟩
 | 6,_=>⟨_,rfl,rfl,by decide⟩
 | 7,_=>⟨_,rfl,rfl,by decide⟩
 | 8,_=>⟨_,rfl,rfl,by decide⟩
 | 9,_=>⟨_,rfl,rfl,by decide⟩
 | 10,_=>⟨_,rfl,rfl,by decide⟩
 | j+11,h=>by omega
theorem Sr:Tryz.prog.underlying 173=some (.array 11 172):=Tryz.underlying173
theorem adv:(Tryz.prog.info? 173).map (·.size)=some Aa.size:=by kernel_rfl
theorem adq:(Tryz.prog.info? 172).map (·.size)=some 3:=by kernel_rfl
def ug(w:World)(b:Nat)(q:ByteArray × Nat × Int):Prop:=w.heap[b]? = some (.cells #[.string q.1,.int .i64 (q.2.1:Int),.int .i64 q.2.2] 172)
theorem ug.new(w:World)(q:ByteArray × Nat × Int):ug (w.alloc (.cells #[.string q.1,.int .i64 (q.2.1:Int),.int .i64 q.2.2] 172)) w.heap.size q:=(ko w _).1
theorem ug.facts {w:World}{b:Nat}{q:ByteArray × Nat × Int}(h:ug w b q):w.cell? ⟨b,0,none⟩=some (.string q.1)∧w.cell? ⟨b,1,none⟩=some (.int .i64 (q.2.1:Int))∧w.cell? ⟨b,2,none⟩=some (.int .i64 q.2.2) :=
 ⟨by rw[cell_of_row w b 0 _ _ _ h];rfl,by rw[cell_of_row w b 1 _ _ _ h];rfl,by rw[cell_of_row w b 2 _ _ _ h];rfl⟩
theorem ug.lt{w:World}{b:Nat}{q:ByteArray × Nat × Int}(h:ug w b q):b<w.heap.size:=(dO.1 h).1
theorem ug.below{w w':World}{B b:Nat}{q:ByteArray × Nat × Int}(h:ug w b q)(hb:Below B w w')(hB:b<B):ug w' b q:=by unfold ug;rw[hb.block b hB];exact h
theorem adt {w:World}{b:Nat}{tv:Value}{ts:List ag}{p deep:Nat}{nv:Value}{vs:List az}(h:bN w b tv ts p deep nv vs)(n:Nat)(hn:n≤3) :
 Calls Tryz.prog 143 #[.pointer (some ⟨b,0,none⟩),.int .i64 (n:Int)] w fun e w'=>e = .returned (.tuple #[.int .i64 (eH n (ts.drop p)),.bool (decide (eH n (ts.drop p)≠0))])∧Below w.heap.size w w':=by
 obtain⟨ty,fr,Dj⟩:=h.ops;have HP:=ae h;clear h;have IU:=ae Dj;clear Dj;have HK:=ae (adi n (ts.drop p) hn);go_enter Tryz.func143,Tryz.ntmps143;go_upto_region 1 with (fail)
 refine wp_region_lit ?_;refine wpList_load_row rfl 173 (.global 2) rfl 2 rfl ty Aa fr _ IU.o Sr rfl adv ?_;go_wp2_with fail
 go_loopw [9] (fun i wr=>∃j:Nat,j≤11∧i = .int .i64 j∧Hid (∀q y,q<j→qE[q]? = some y→pz n (ts.drop p) y=false)∧Hid (Below w.heap.size w wr))
  (fun i _=>11 - (intOf i).toNat)
 case atStart=>exact⟨0,by omega,rfl,ae (by intro q _ hq;omega),ae (ai _ _)⟩
 case round =>
  obtain⟨j,hj,rfl,dN,HB⟩:=hrel;by_cases hlt:j<11
  · have hji:(j:Int)<11:=by omega
    obtain⟨q,hq1,hq2,hq3⟩:=ado j hlt;have qZ:=ae hq1;have lG:=ae hq2;clear hq1 hq2;go_upto_region 3 with (fail)
    refine wp_region_lit ?_;refine ahH rfl 173 172 11 3 (.tmp 8) (.tmp 9) rfl Aa j _ _ Sr Tryz.underlying172 rfl adq rfl rfl hlt lG.o ?_;go_upto_region 4 with (fail)
    have hB3:Below wr.heap.size wr (wr.alloc (.cells #[.string q.1,.int .i64 (q.2.1:Int),.int .i64 q.2.2] 172)):=(ai _ _).alloc (ah _) _;have HO:=ug.new wr q;have HB3:=ae (HB.o.trans (hB3.mono HB.o.size));clear hB3 HB lG;generalize wr.alloc (.cells #[.string q.1,.int .i64 (q.2.1:Int),.int .i64 q.2.2] 172)=w3 at HO HB3 ⊢;generalize wr.heap.size=b3 at HO ⊢;obtain⟨x0,x1,x2⟩:=HO.facts;have aW:=ae (HP.o.below HB3.o);by_cases hr:q.2.1=n
    · have er:((q.2.1:Int) == (n:Int))=true:=by rw[beq_iff_eq,hr]
      have HS:=ae (zQ aW.o q.1);cases hs:au q.1 (ts.drop p)
      · have IB:=ae (show pz n (ts.drop p) q=false by unfold pz;rw[hs,Bool.and_false])
        rw[hs]at HS;clear hs hr;go_wp2_with (go_at_call 116;((with_reducible refine HS.o.mono ?_);rintro e w4 ⟨rfl,h1⟩;have dJ:=ae (HB3.o.trans (h1.mono HB3.o.size));clear h1))
        go_roundw
        case rel =>
         refine⟨j+1,by omega,by go_num,ae ?_,dJ⟩;intro q' y hq' hy;by_cases hqj:q'<j
         · exact dN.o q' y hqj hy
         · rw[show q'=j from by omega,qZ.o]at hy;injection hy with hy;subst hy;exact IB.o
        case measure=>simp[intOf];omega
      · have nV:=ae (show eH n (ts.drop p)=q.2.2 by rw[HK.o,JK (pz n (ts.drop p)) qE j q qZ.o (by unfold pz;rw[hs,decide_eq_true hr];rfl) dN.o])
        have nW:=ae (show q.2.2≠0 from by
         have:∀q∈qE,q.2.2≠0:=by decide
         exact this q (fu qZ.o))
        rw[hs]at HS;clear hs hr;have fZ:=ae HO;clear x0 x1 x2;obtain⟨x0,x1,x2⟩:=fZ.o.facts;go_upto_region 5 with (go_at_call 116;((with_reducible refine HS.o.mono ?_);rintro e w4 ⟨rfl,h1⟩;have dJ:=ae (HB3.o.trans (h1.mono HB3.o.size));have mP:=ae (fZ.o.below h1 fZ.o.lt);clear h1))
        clear x0 x1 x2;obtain⟨x0,x1,x2⟩:=mP.o.facts;go_wp2_with fail
        go_ret2
        exact⟨by rw[nV.o,decide_eq_true nW.o];rfl,dJ.o⟩
    · have er:((q.2.1:Int) == (n:Int))=false:=by rw[beq_eq_false_iff_ne];omega
      have IB:=ae (show pz n (ts.drop p) q=false by unfold pz;rw[decide_eq_false hr,Bool.false_and]);clear hr;go_wp2_with fail
      go_roundw
      case rel =>
       refine⟨j+1,by omega,by go_num,ae ?_,HB3⟩;intro q' y hq' hy;by_cases hqj:q'<j
       · exact dN.o q' y hqj hy
       · rw[show q'=j from by omega,qZ.o]at hy;injection hy with hy;subst hy;exact IB.o
      case measure=>simp[intOf];omega
  · have hji:¬ (j:Int)<11:=by omega
    have nV:=ae (show eH n (ts.drop p)=0 by
     rw[HK.o,JL (pz n (ts.drop p)) qE (fun q y hy=>dN.o q y (by have:=(dW.1 hy).1;have:q<11:=this;omega) hy)])
    go_wp2_with fail
    go_ret2
    exact⟨by rw[nV.o];rfl,HB.o⟩
def uM:Nat→FuncId
 | 0=>86
 | 1=>87
 | 2=>88
 | 3=>89
 | 4=>90
 | _=>91
theorem YB:∀n:Nat,n<6→∀args (v:World),(callFunc (uM n) args).run Tryz.prog v = .ok (.enter (uM n) args) v
 | 0,_=>Go.Proofs.enters_of Tryz.func86 (by kernel_rfl) rfl
 | 1,_=>Go.Proofs.enters_of Tryz.func87 (by kernel_rfl) rfl
 | 2,_=>Go.Proofs.enters_of Tryz.func88 (by kernel_rfl) rfl
 | 3,_=>Go.Proofs.enters_of Tryz.func89 (by kernel_rfl) rfl
 | 4,_=>Go.Proofs.enters_of Tryz.func90 (by kernel_rfl) rfl
 | 5,_=>Go.Proofs.enters_of Tryz.func91 (by kernel_rfl) rfl
 | n+6,h=>by omega
def ym(b:Nat):Array Value:=#[.func (.func 86) #[.pointer (some ⟨b,0,none⟩)] #[],.func (.func 87) #[.pointer (some ⟨b,0,none⟩)] #[],.func (.func 88) #[.pointer (some ⟨b,0,none⟩)] #[],.func (.func 89) #[.pointer (some ⟨b,0,none⟩)] #[],.func (.func 90) #[.pointer (some ⟨b,0,none⟩)] #[],.func (.func 91) #[.pointer (some ⟨b,0,none⟩)] #[]]
theorem ab0 (b:Nat):∀n:Nat,n<6→(ym b)[n]? = some (.func (.func (uM n)) #[.pointer (some ⟨b,0,none⟩)] #[])
 | 0,_=>rfl
 | 1,_=>rfl
 | 2,_=>rfl
 | 3,_=>rfl
 | 4,_=>rfl
 | 5,_=>rfl
 | n+6,h=>by omega
theorem ab2(b:Nat):(Tryz.prog.info? 142).map (·.size)=some (ym b).size:=by kernel_rfl
theorem ab1 (b:Nat):∀v∈(ym b).toList,v.oneCell'=true:=by
 intro v hv;simp only[ym,List.mem_cons,List.not_mem_nil,or_false]at hv;rcases hv with rfl|rfl|rfl|rfl|rfl|rfl <;> rfl
theorem below_setRow {B:Nat}{a w:World}{g:Nat}(h:Below B a w)(hg:B≤g)(cs:Array Value):Below B a (w.setRow g cs) :=
 ⟨h.os,h.tape,h.output,by simpa using h.size,fun j hj=>by rw[Go.setRow_other w g j cs (by omega)];exact h.block j hj⟩
theorem KF (b n:Nat)(hn:n<6)(w:World)(R:Ending→World→Prop)(hR:∀e w',R e w'→∃c,e = .returned (.int .i64 c))(hc:∀w',Below w.heap.size w w'→Calls Tryz.prog (uM n) #[.pointer (some ⟨b,0,none⟩)] w' R) :
 Calls Tryz.prog 60 #[.pointer (some ⟨b,0,none⟩),.int .i64 (n:Int)] w R:=by
 have HC:=ae hc;clear hc;have HRR:=ae hR;clear hR;have wS:=YB n hn;have HAT:=ae (ab0 b n hn);have hi1:(0:Int)≤(n:Int):=by omega
 have hi2:(n:Int)<6:=by omega
 obtain⟨F,hF⟩:∃F,uM n=F:=⟨_,rfl⟩;rw[hF]at HC wS HAT;have hh:(w.alloc (.cells #[.nilFunc,.nilFunc,.nilFunc,.nilFunc,.nilFunc,.nilFunc] 142)).heap[w.heap.size]? = some (.cells #[.nilFunc,.nilFunc,.nilFunc,.nilFunc,.nilFunc,.nilFunc] 142):=(ko w _).1;have HB:=ae (below_setRow ((ai w.heap.size w).alloc (ah _) (.cells #[.nilFunc,.nilFunc,.nilFunc,.nilFunc,.nilFunc,.nilFunc] 142)) (ah _) (ym b));have HW:=ae (setRow_heap _ w.heap.size _ (ym b) _ _ hh);have HH:=ae hh;clear hF hh;go_enter Tryz.func60,Tryz.ntmps60;go_upto_region 2 with ((with_reducible refine wpList_store_row (op:=⟨none,.store 142 (.tmp 5) (.tmp 18),_,_,_,_⟩) rfl 142 (.tmp 5) (.tmp 18) rfl w.heap.size 142 _ (ym b) ?_ ?_ HH.o ?_ (ab2 b) (ab1 b) ?_);rfl;rfl;rfl)
 generalize (w.alloc (.cells #[.nilFunc,.nilFunc,.nilFunc,.nilFunc,.nilFunc,.nilFunc] 142)).setRow w.heap.size (ym b)=w1 at HB HW ⊢
 have hce:w1.cell? ⟨w.heap.size,n,none⟩=some (.func (.func F) #[.pointer (some ⟨b,0,none⟩)] #[]):=by
  rw[cell_of_row w1 w.heap.size n _ _ _ HW.o];exact HAT.o
 go_wp2_with fail
 refine(HC.o w1 HB.o).mono ?_;intro e w2 hr;obtain⟨c,rfl⟩:=HRR.o e w2 hr;have HR:=ae hr;clear hr;go_wp2_with fail
 exact HR.o
theorem YL (b:Nat)(w:World)(R:Ending→World→Prop)(hR:∀e w',R e w'→∃c,e = .returned (.int .i64 c))(hc:Calls Tryz.prog 115 #[.pointer (some ⟨b,0,none⟩),.int .i64 0] w R) :
 Calls Tryz.prog 86 #[.pointer (some ⟨b,0,none⟩)] w R:=by
 have HC:=ae hc;have HRR:=ae hR;clear hc hR;go_enter Tryz.func86,Tryz.ntmps86;go_wp2_with (go_at_call 115;((with_reducible refine HC.o.mono ?_);intro e w2 hr;obtain⟨c,rfl⟩:=HRR.o e w2 hr;have HR:=ae hr;clear hr))
 exact HR.o
theorem XZ (b:Nat)(w:World)(R:Ending→World→Prop)(hR:∀e w',R e w'→∃c,e = .returned (.int .i64 c))(hc:Calls Tryz.prog 115 #[.pointer (some ⟨b,0,none⟩),.int .i64 1] w R) :
 Calls Tryz.prog 87 #[.pointer (some ⟨b,0,none⟩)] w R:=by
 have HC:=ae hc;have HRR:=ae hR;clear hc hR;go_enter Tryz.func87,Tryz.ntmps87;go_wp2_with (go_at_call 115;((with_reducible refine HC.o.mono ?_);intro e w2 hr;obtain⟨c,rfl⟩:=HRR.o e w2 hr;have HR:=ae hr;clear hr))
 exact HR.o
theorem agC (b:Nat)(w:World)(R:Ending→World→Prop)(hR:∀e w',R e w'→∃c,e = .returned (.int .i64 c))(hc:Calls Tryz.prog 115 #[.pointer (some ⟨b,0,none⟩),.int .i64 2] w R) :
 Calls Tryz.prog 88 #[.pointer (some ⟨b,0,none⟩)] w R:=by
 have HC:=ae hc;have HRR:=ae hR;clear hc hR;go_enter Tryz.func88,Tryz.ntmps88;go_wp2_with (go_at_call 115;((with_reducible refine HC.o.mono ?_);intro e w2 hr;obtain⟨c,rfl⟩:=HRR.o e w2 hr;have HR:=ae hr;clear hr))
 exact HR.o
theorem agK (b:Nat)(w:World)(R:Ending→World→Prop)(hR:∀e w',R e w'→∃c,e = .returned (.int .i64 c))(hc:Calls Tryz.prog 115 #[.pointer (some ⟨b,0,none⟩),.int .i64 3] w R) :
 Calls Tryz.prog 89 #[.pointer (some ⟨b,0,none⟩)] w R:=by
 have HC:=ae hc;have HRR:=ae hR;clear hc hR;go_enter Tryz.func89,Tryz.ntmps89;go_wp2_with (go_at_call 115;((with_reducible refine HC.o.mono ?_);intro e w2 hr;obtain⟨c,rfl⟩:=HRR.o e w2 hr;have HR:=ae hr;clear hr))
 exact HR.o
theorem lv0:uM 0=86:=rfl
theorem lv1:uM 1=87:=rfl
theorem lv2:uM 2=88:=rfl
theorem lv3:uM 3=89:=rfl
theorem lv4:uM 4=90:=rfl
theorem lv5:uM 5=91:=rfl
theorem abK (b:Nat)(w:World)(R:Ending→World→Prop)(hR:∀e w',R e w'→∃c,e = .returned (.int .i64 c))(n:Nat)(hn:n≤3)(hc:∀w',Below w.heap.size w w'→Calls Tryz.prog 115 #[.pointer (some ⟨b,0,none⟩),.int .i64 (n:Int)] w' R) :
 Calls Tryz.prog 60 #[.pointer (some ⟨b,0,none⟩),.int .i64 (n:Int)] w R:=by
 refine KF b n (by omega) w R hR fun w' hb => ?_
 have h:=hc w' hb;obtain⟨i,hi⟩:∃i:Int,(n:Int)=i:=⟨_,rfl⟩;rw[hi]at h;rcases(show n=0∨n=1∨n=2∨n=3 by omega)with e|e|e|e
 · rw[e,lv0];rw[show i=0 by omega]at h;exact YL b w' R hR h
 · rw[e,lv1];rw[show i=1 by omega]at h;exact XZ b w' R hR h
 · rw[e,lv2];rw[show i=2 by omega]at h;exact agC b w' R hR h
 · rw[e,lv3];rw[show i=3 by omega]at h;exact agK b w' R hR h
theorem Elem.il:∃n,n≤200∧Elem Tryz.prog 25 45 14 n:=⟨136,by omega,Tryz.underlying25,⟨.agg #[.int .i64 0,.int .i64 0,.string ⟨#[]⟩,.string ⟨#[]⟩,.int .i64 0,.int .i64 0,.bool false,.bool false,.string ⟨#[]⟩,.int .i64 0,.int .i64 0,.bool false,.bool false,.slice none 0 0],by kernel_rfl,rfl⟩,by decide⟩
theorem zX:(Tryz.prog.info? 45).map (·.size)=some 14:=by kernel_rfl
def ax(w:World)(b:Nat)(n:Nd)(k:Value):Prop:=w.heap[b]? = some (.cells (bJ n k) 45)
theorem ax.new(w:World)(n:Nd)(k:Value):ax (w.alloc (.cells (bJ n k) 45)) w.heap.size n k:=(ko w _).1
theorem ax.below{w w':World}{B b:Nat}{n:Nd}{k:Value}(h:ax w b n k)(hb:Below B w w')(hB:b<B):ax w' b n k:=by unfold ax;rw[hb.block b hB];exact h
theorem ax.lt{w:World}{b:Nat}{n:Nd}{k:Value}(h:ax w b n k):b<w.heap.size:=(dO.1 h).1
theorem ax.cells {w:World}{b:Nat}{n:Nd}{k:Value}(h:ax w b n k):w.cell? ⟨b,0,none⟩=some (.int .i64 n.kind)∧w.cell? ⟨b,1,none⟩=some (.int .i64 n.num)∧w.cell? ⟨b,2,none⟩=some (.string n.text)∧w.cell? ⟨b,3,none⟩=some (.string n.ref.sh)∧w.cell? ⟨b,4,none⟩=some (.int .i64 n.ref.c)∧w.cell? ⟨b,5,none⟩=some (.int .i64 n.ref.r)∧w.cell? ⟨b,6,none⟩=some (.bool n.ref.ac)∧w.cell? ⟨b,7,none⟩=some (.bool n.ref.ar)∧w.cell? ⟨b,8,none⟩=some (.string n.af.sh)∧w.cell? ⟨b,9,none⟩=some (.int .i64 n.af.c)∧w.cell? ⟨b,10,none⟩=some (.int .i64 n.af.r)∧w.cell? ⟨b,11,none⟩=some (.bool n.af.ac)∧w.cell? ⟨b,12,none⟩=some (.bool n.af.ar)∧w.cell? ⟨b,13,none⟩=some k :=
 ⟨by rw[cell_of_row w b 0 _ _ _ h];rfl,by rw[cell_of_row w b 1 _ _ _ h];rfl,by rw[cell_of_row w b 2 _ _ _ h];rfl,by rw[cell_of_row w b 3 _ _ _ h];rfl,by rw[cell_of_row w b 4 _ _ _ h];rfl,by rw[cell_of_row w b 5 _ _ _ h];rfl,by rw[cell_of_row w b 6 _ _ _ h];rfl,by rw[cell_of_row w b 7 _ _ _ h];rfl,by rw[cell_of_row w b 8 _ _ _ h];rfl,by rw[cell_of_row w b 9 _ _ _ h];rfl,by rw[cell_of_row w b 10 _ _ _ h];rfl,by rw[cell_of_row w b 11 _ _ _ h];rfl,by rw[cell_of_row w b 12 _ _ _ h];rfl,by rw[cell_of_row w b 13 _ _ _ h];rfl⟩
theorem bN.row {w:World}{b:Nat}{tv:Value}{ts:List ag}{p deep:Nat}{nv:Value}{vs:List az}(h:bN w b tv ts p deep nv vs):∀g,nv.ownBlock=some g→b<g∧AX w g:=by
 intro g e;rcases h.nodes.1.2 with ⟨h1,_⟩|⟨g',cap,cur,h1,h2,h3,_⟩
 · rw[h1]at e;cases e
 · rw[h1]at e;injection e with e
   have e:g'=g:=e;subst e;exact⟨by omega,cur,_,h3⟩
theorem bN.JO {w w':World}{b:Nat}{tv:Value}{ts:List ag}{p deep:Nat}{nv:Value}{vs:List az}(h:bN w b tv ts p deep nv vs)(hg:w.grownBy w' nv.ownBlock):w'.cell? ⟨b,3,none⟩=some nv∧w'.frozen? ⟨b,3,none⟩=false:=by
 have hbb:w'.heap[b]? = w.heap[b]? := hg.block b h.blt (by intro e;have:=(h.row b e.symm).1;omega);have hc:=hbb.trans h.cell;exact⟨by rw[cell_of_row w' b 3 _ _ _ hc];rfl,frozen_of_row w' b 3 _ _ hc⟩
theorem bN.grow {w w':World}{b:Nat}{tv:Value}{ts:List ag}{p deep:Nat}{nv aT:Value}{vs:List az}{v:az}(h:bN w b tv ts p deep nv vs)(hg:w.grownBy w' nv.ownBlock)(ho:Own o8 45 w' (b+1) aT (vs++[v]))
 (hk:Own (aK .i64) 3 w (b+1) v.aS v.n.kids) (hc:vs.length+1≤p):bN (w'.setCell ⟨b,3,none⟩ aT) b tv ts p deep aT (vs++[v])∧Fr w (w'.setCell ⟨b,3,none⟩ aT) b:=by
 have zH:=h.row;have hfr:Fr w w' b:=(Fr.refl w b).row hg (fun g e=>⟨(zH g e).1,.inr (zH g e).2⟩);have hbb:w'.heap[b]? = w.heap[b]? := hg.block b h.blt (by intro e;have:=(zH b e.symm).1;omega);refine⟨⟨?_, ?_,⟨ho.keep fun j hj _ _=>fO _ _ _ _ (by show j≠b;omega), ?_⟩, ?_,h.lt,h.low,h.fit,h.few,by rw[ak,fK];exact hc,h.nest⟩,hfr.setCell _ _⟩
 · rw[heap_setCell_same w' b 3 _ _ _ (hbb.trans h.cell)];rfl
 · have h1:zf w' b tv ts:=by
    obtain⟨g,cap,h1,h2,h3⟩:=h.pU;exact⟨g,cap,h1,h2,h3.keep fun j _ hj e=>hfr.block j hj (by rw[h1]at e;injection e with e;have:g=j:=e;omega) (.inl (by rw[h1]at e;injection e with e;have:g=j:=e;omega))⟩
   exact h1.set _ _
 · intro u hu
   have h1:Own (aK .i64) 3 w (b+1) u.aS u.n.kids:=by
    rcases List.mem_append.1 hu with hu|hu
    · exact h.nodes.2 u hu
    · rw[List.mem_singleton.1 hu];exact hk
   exact(h1.fr hfr (by omega) (by decide)).keep fun j hj _ _=>fO _ _ _ _ (by show j≠b;omega)
 · have h1:mQ w':=h.ops.keep (hfr.block _ h.ops.lt (by have:=h.low;omega) (.inl (by have:=h.low;omega)))
   exact h1.set h.low _ _
theorem CO {w:World}{b:Nat}{tv:Value}{ts:List ag}{p deep:Nat}{nv:Value}{vs:List az}(h:bN w b tv ts p deep nv vs)(v:az)(hk:Own (aK .i64) 3 w (b+1) v.aS v.n.kids)(hc:vs.length+1≤p)(k:Value)(lv:v.aS=k)(n:Nd)(hn:v.n=n) :
 Calls Tryz.prog 118 #[.pointer (some ⟨b,0,none⟩),.agg #[.int .i64 n.kind,.int .i64 n.num,.string n.text,.string n.ref.sh,.int .i64 n.ref.c,.int .i64 n.ref.r,.bool n.ref.ac,.bool n.ref.ar,.string n.af.sh,.int .i64 n.af.c,.int .i64 n.af.r,.bool n.af.ac,.bool n.af.ar,k]] w fun e w'=>Fr w w' b∧e = .returned (.tuple #[])∧∃aT,bN w' b tv ts p deep aT (vs++[v]):=by
 obtain⟨eb,jK,bV⟩:=Elem.il;have hal:Below w.heap.size w (w.alloc (.cells #[.int .i64 n.kind,.int .i64 n.num,.string n.text,.string n.ref.sh,.int .i64 n.ref.c,.int .i64 n.ref.r,.bool n.ref.ac,.bool n.ref.ar,.string n.af.sh,.int .i64 n.af.c,.int .i64 n.af.r,.bool n.af.ac,.bool n.af.ar,k] 45)):=(ai _ _).alloc (ah _) _;have bD:=ae (h.below hal);have lN:=ae (hk.alloc (.cells #[.int .i64 n.kind,.int .i64 n.num,.string n.text,.string n.ref.sh,.int .i64 n.ref.c,.int .i64 n.ref.r,.bool n.ref.ac,.bool n.ref.ar,.string n.af.sh,.int .i64 n.af.c,.int .i64 n.af.r,.bool n.af.ac,.bool n.af.ar,k] 45));have hx:ax (w.alloc (.cells #[.int .i64 n.kind,.int .i64 n.num,.string n.text,.string n.ref.sh,.int .i64 n.ref.c,.int .i64 n.ref.r,.bool n.ref.ac,.bool n.ref.ar,.string n.af.sh,.int .i64 n.af.c,.int .i64 n.af.r,.bool n.af.ac,.bool n.af.ar,k] 45)) w.heap.size n k:=ax.new w n k;have h2:=h.few;have h3:=h.lt;have hbl:=h.blt;have hsz:(w.alloc (.cells #[.int .i64 n.kind,.int .i64 n.num,.string n.text,.string n.ref.sh,.int .i64 n.ref.c,.int .i64 n.ref.r,.bool n.ref.ac,.bool n.ref.ar,.string n.af.sh,.int .i64 n.af.c,.int .i64 n.af.r,.bool n.af.ac,.bool n.af.ar,k] 45)).heap.size=w.heap.size+1:=by simp
 have jH:=ae bV;have aU:=ae hal;clear h hk bV hal;go_enter Tryz.func118,Tryz.ntmps118;go_wp2_with fail
 generalize w.alloc (.cells #[.int .i64 n.kind,.int .i64 n.num,.string n.text,.string n.ref.sh,.int .i64 n.ref.c,.int .i64 n.ref.r,.bool n.ref.ac,.bool n.ref.ar,.string n.af.sh,.int .i64 n.af.c,.int .i64 n.af.r,.bool n.af.ac,.bool n.af.ar,k] 45)=w1 at bD lN aU hx hsz ⊢;obtain⟨x0,x1,x2,x3,x4,x5,x6,x7,av,aJ,aG,aH,aI,aF⟩:=hx.cells;obtain⟨c0,c1,c2,c3⟩:=bD.o.facts;have f3:=bD.o.frozen 3;clear hx c0 c1 c2;have Cw:=ae (bD.o.drew.below ((ai _ _).alloc (ah _) (.cells #[.int .i64 n.kind,.int .i64 n.num,.string n.text,.string n.ref.sh,.int .i64 n.ref.c,.int .i64 n.ref.r,.bool n.ref.ac,.bool n.ref.ar,.string n.af.sh,.int .i64 n.af.c,.int .i64 n.af.r,.bool n.af.ac,.bool n.af.ar,k] 45)))
 go_region_law (refine Ml jH.o o8 rfl (.tmp 8) (.tmp 10) rfl (b+1) nv vs ?_ (bD.o.nodes.1.drew.alloc _) ⟨w1.heap.size,0,none⟩ 1 1 [v] ?_ rfl ?_ ?_ ?_ ?_ ?_;go_simp;go_simp;(subst lv;subst hn;exact gQ (w:=w1.drew) _ _ _ rfl);exact bF (Nat.mul_le_mul_left _ jK) (by omega);(unfold maxLen;omega);(simp <;> omega);intro v' nD h1 h2 h4;obtain⟨g1,eU,rfl,hg0,hg1,hg2,hg3⟩:=Own.some h1 (by simp);obtain⟨d1,d2⟩:=Cw.o.JO h2;have HO:=ae h1;have HG:=ae h2;clear h1 h2 h4)
 all_goals
  go_wp2_with fail
  obtain⟨q1,q2⟩:=Cw.o.grow HG.o HO.o (lN.o.drew.alloc _) hc;rw[ak,fK]at q1 q2;have hF:=(((Fr.of b aU.o).drew).below ((ai _ _).alloc (ah _) (.cells #[.int .i64 n.kind,.int .i64 n.num,.string n.text,.string n.ref.sh,.int .i64 n.ref.c,.int .i64 n.ref.r,.bool n.ref.ac,.bool n.ref.ar,.string n.af.sh,.int .i64 n.af.c,.int .i64 n.af.r,.bool n.af.ac,.bool n.af.ar,k] 45))).trans q2
  first
   | exact bodyPost_ret (results_none rfl _ _ _) rfl ⟨hF,rfl,_,q1⟩
   | (go_end0;exact⟨hF,rfl,_,q1⟩)
def Out (res:dR)(w:World)(b:Nat)(tv:Value)(ts:List ag)(deep:Nat)(vs:List az)(e:Ending)(w':World):Prop :=
 Fr w w' b∧((∃c,res = .error c∧(c=5∨c=6)∧e = .returned (.int .i64 c)) ∨
  (∃ms a r,res = .ok (ms,a,r)∧e = .returned (.int .i64 0)∧∃p' aT us,ts.drop p'=r∧us.map az.n=ms∧(∀u∈us,∀g,u.aS.ownBlock=some g→w.heap.size≤g)∧bN w' b tv ts p' deep aT (vs++us)))
def az.leaf(n:Nd):az:=⟨n,none⟩
theorem wY (w:World)(lo:Nat)(n:Nd)(h:n.kids=[]):Own (aK .i64) 3 w lo (az.leaf n).aS (az.leaf n).n.kids:=by
 show Own (aK .i64) 3 w lo (.slice none 0 0) n.kids;rw[h];exact Own.nil _ _ _ _
theorem Bq {w:World}{b:Nat}{tv:Value}{ts:List ag}{p deep:Nat}{nv:Value}{vs:List az}(h:bN w b tv ts p deep nv vs)(hnx:p+1<ts.length)(n:Nd)(hn:n.kids=[]) :
 Calls Tryz.prog 120 #[.pointer (some ⟨b,0,none⟩),.agg #[.int .i64 n.kind,.int .i64 n.num,.string n.text,.string n.ref.sh,.int .i64 n.ref.c,.int .i64 n.ref.r,.bool n.ref.ac,.bool n.ref.ar,.string n.af.sh,.int .i64 n.af.c,.int .i64 n.af.r,.bool n.af.ac,.bool n.af.ar,.slice none 0 0]] w fun e w'=>Fr w w' b∧e = .returned (.int .i64 0)∧∃aT,bN w' b tv ts (p+1) deep aT (vs++[az.leaf n]):=by
 have hal:Below w.heap.size w (w.alloc (.cells #[.int .i64 n.kind,.int .i64 n.num,.string n.text,.string n.ref.sh,.int .i64 n.ref.c,.int .i64 n.ref.r,.bool n.ref.ac,.bool n.ref.ar,.string n.af.sh,.int .i64 n.af.c,.int .i64 n.af.r,.bool n.af.ac,.bool n.af.ar,.slice none 0 0] 45)):=(ai _ _).alloc (ah _) _;have bD:=ae (h.below hal);have hx:ax (w.alloc (.cells #[.int .i64 n.kind,.int .i64 n.num,.string n.text,.string n.ref.sh,.int .i64 n.ref.c,.int .i64 n.ref.r,.bool n.ref.ac,.bool n.ref.ar,.string n.af.sh,.int .i64 n.af.c,.int .i64 n.af.r,.bool n.af.ac,.bool n.af.ar,.slice none 0 0] 45)) w.heap.size n (.slice none 0 0):=ax.new w n _;have h2:=h.few;have h4:=h.cnt;have hbl:=h.blt;have hsz:(w.alloc (.cells #[.int .i64 n.kind,.int .i64 n.num,.string n.text,.string n.ref.sh,.int .i64 n.ref.c,.int .i64 n.ref.r,.bool n.ref.ac,.bool n.ref.ar,.string n.af.sh,.int .i64 n.af.c,.int .i64 n.af.r,.bool n.af.ac,.bool n.af.ar,.slice none 0 0] 45)).heap.size=w.heap.size+1:=by simp
 have aU:=ae hal;clear h hal;go_enter Tryz.func120,Tryz.ntmps120;go_upto_region 1 with (fail)
 generalize w.alloc (.cells #[.int .i64 n.kind,.int .i64 n.num,.string n.text,.string n.ref.sh,.int .i64 n.ref.c,.int .i64 n.ref.r,.bool n.ref.ac,.bool n.ref.ar,.string n.af.sh,.int .i64 n.af.c,.int .i64 n.af.r,.bool n.af.ac,.bool n.af.ar,.slice none 0 0] 45)=w1 at bD aU hx hsz ⊢;obtain⟨c0,c1,c2,c3⟩:=bD.o.facts;have f1:=bD.o.frozen 1;clear c0 c2 c3;go_upto_region 2 with (fail)
 have dB:=ae (bD.o.next hnx);have bT:=ae (show ax (w1.setCell ⟨b,1,none⟩ (.int .i64 ((p:Int)+1))) w.heap.size n (.slice none 0 0)from by unfold ax;rw[fO _ _ _ _ (by show w.heap.size≠b;omega)];exact hx);have bI:=ae ((Fr.of b aU.o).setCell 1 (.int .i64 ((p:Int)+1)));clear c1 f1 hx bD aU hsz;generalize w1.setCell ⟨b,1,none⟩ (.int .i64 ((p:Int)+1))=w2 at dB bT bI ⊢;obtain⟨x0,x1,x2,x3,x4,x5,x6,x7,av,aJ,aG,aH,aI,aF⟩:=bT.o.cells;have HA:=ae (CO dB.o (az.leaf n) (wY _ _ n hn) (by omega) (.slice none 0 0) rfl n rfl);go_wp2_with (go_at_call 118;((with_reducible refine HA.o.mono ?_);rintro e w3 ⟨h1,rfl,aT,h3⟩;have dD:=ae (bI.o.trans h1);have aW:=ae h3;clear h1 h3))
 go_ret;exact⟨dD.o,rfl,_,aW.o⟩
theorem ow:(⟨#[]⟩:ByteArray).toList=[]:=by rw[qB]
theorem QU (s1 s2:ByteArray)(c1 r1 c2 r2:Int)(a1 b1 a2 b2:Bool)(w:World) :
 Calls Tryz.prog 125 #[.agg #[.string s1,.int .i64 c1,.int .i64 r1,.bool a1,.bool b1],.agg #[.string s2,.int .i64 c2,.int .i64 r2,.bool a2,.bool b2]] w fun e w'=>e = .returned (.bool (eD ⟨s1,c1,r1,a1,b1⟩ ⟨s2,c2,r2,a2,b2⟩))∧Below w.heap.size w w':=by
 have hsz:(w.alloc (.cells #[.string s1,.int .i64 c1,.int .i64 r1,.bool a1,.bool b1] 43)).heap.size=w.heap.size+1:=by simp
 have h1:=bU.new w s1 c1 r1 a1 b1;have h2:=bU.new (w.alloc (.cells #[.string s1,.int .i64 c1,.int .i64 r1,.bool a1,.bool b1] 43)) s2 c2 r2 a2 b2;have h3:=h1.below ((ai _ _).alloc (ah _) (.cells #[.string s2,.int .i64 c2,.int .i64 r2,.bool a2,.bool b2] 43)) h1.lt;rw[hsz]at h2;have HB:=ae (((ai w.heap.size w).alloc (ah _) (.cells #[.string s1,.int .i64 c1,.int .i64 r1,.bool a1,.bool b1] 43)).alloc (by simp) (.cells #[.string s2,.int .i64 c2,.int .i64 r2,.bool a2,.bool b2] 43));have HS:=ae (show eD ⟨s1,c1,r1,a1,b1⟩ ⟨s2,c2,r2,a2,b2⟩=(decide (s2=⟨#[]⟩)&&(decide (c1≤c2)&&decide (r1≤r2)))from rfl);clear h1;go_enter Tryz.func125,Tryz.ntmps125;go_upto_region 1 with (fail)
 generalize (w.alloc (.cells #[.string s1,.int .i64 c1,.int .i64 r1,.bool a1,.bool b1] 43)).alloc (.cells #[.string s2,.int .i64 c2,.int .i64 r2,.bool a2,.bool b2] 43)=w1 at h2 h3 HB ⊢;obtain⟨x0,x1,x2,x3,x4⟩:=h2.facts;obtain⟨y0,y1,y2,y3,y4⟩:=h3.facts;clear h2 h3;by_cases hs:s2=⟨#[]⟩
 · subst hs
   have e0:=ow;by_cases hc:c1≤c2
   · by_cases hr:r1≤r2
     · have HT:=ae (show eD ⟨s1,c1,r1,a1,b1⟩ ⟨⟨#[]⟩,c2,r2,a2,b2⟩=true by rw[HS.o,decide_eq_true hc,decide_eq_true hr];rfl)
       go_wp2_with fail
       go_ret;exact⟨by rw[HT.o];rfl,HB.o⟩
     · have HT:=ae (show eD ⟨s1,c1,r1,a1,b1⟩ ⟨⟨#[]⟩,c2,r2,a2,b2⟩=false by rw[HS.o,decide_eq_true hc,decide_eq_false hr];rfl)
       go_wp2_with fail
       go_ret;exact⟨by rw[HT.o];rfl,HB.o⟩
   · have HT:=ae (show eD ⟨s1,c1,r1,a1,b1⟩ ⟨⟨#[]⟩,c2,r2,a2,b2⟩=false by rw[HS.o,decide_eq_false hc];rfl)
     go_wp2_with fail
     go_ret;exact⟨by rw[HT.o];rfl,HB.o⟩
 · have HT:=ae (show eD ⟨s1,c1,r1,a1,b1⟩ ⟨s2,c2,r2,a2,b2⟩=false by rw[HS.o,decide_eq_false hs];rfl)
   have e0:¬ s2.toList=[]:=by rw[← ow];exact pR _ _ hs
   have e1:s2.toList.isEmpty=false:=by simpa using e0
   clear hs;go_wp2_with fail
   go_ret;exact⟨by rw[HT.o];rfl,HB.o⟩
theorem Out.leaf {res:dR}{w w':World}{b:Nat}{tv:Value}{ts:List ag}{deep p':Nat}{vs:List az}{aT:Value}{n:Nd}{a:Nat}{r:List ag}(hr:res = .ok ([n],a,r))(hf:Fr w w' b)(hp:ts.drop p'=r)(h:bN w' b tv ts p' deep aT (vs++[az.leaf n])):Out res w b tv ts deep vs (.returned (.int .i64 0)) w' :=
 ⟨hf,.inr ⟨[n],a,r,hr,rfl,p',aT,[az.leaf n],hp,rfl,(by intro u hu g hg;rw[List.mem_singleton.1 hu]at hg;cases hg),h⟩⟩
theorem Out.err{res:dR}{w w':World}{b:Nat}{tv:Value}{ts:List ag}{deep:Nat}{vs:List az}{c:Int}(hr:res = .error c)(hc:c=5∨c=6)(hf:Fr w w' b):Out res w b tv ts deep vs (.returned (.int .i64 c)) w':=⟨hf,.inl ⟨c,hr,hc,rfl⟩⟩
theorem bU.set {w:World}{b:Nat}{s:ByteArray}{c r:Int}{ac ar:Bool}(h:bU w b s c r ac ar){g:Nat}(hg:b≠g)(o:Nat)(v:Value):bU (w.setCell ⟨g,o,none⟩ v) b s c r ac ar:=by
 unfold bU;rw[fO _ _ _ _ (by exact hg)];exact h
theorem bU.fr {w w':World}{b g:Nat}{s:ByteArray}{c r:Int}{ac ar:Bool}(h:bU w g s c r ac ar)(hf:Fr w w' b)(hg:g≠b):bU w' g s c r ac ar:=by
 unfold bU;rw[hf.block g h.lt hg (.inr (by rintro⟨cur,fr,e⟩;unfold bU at h;rw[h]at e;injection e with e;injection e with _ e;exact absurd e (by decide)))];exact h
theorem adH {w:World}{b:Nat}{tv:Value}{ts:List ag}{p deep:Nat}{nv:Value}{vs:List az}(h:bN w b tv ts p deep nv vs)(t:ag)(hnx:p+1<ts.length)(base:Nat) :
 Calls Tryz.prog 121 #[.pointer (some ⟨b,0,none⟩),.agg #[.string t.sh,.int .i64 t.c,.int .i64 t.r,.bool t.ac,.bool t.ar]] w (Out (jc base t (ts.drop (p+1))) w b tv ts deep vs):=by
 have hal:Below w.heap.size w (w.alloc (.cells #[.string t.sh,.int .i64 t.c,.int .i64 t.r,.bool t.ac,.bool t.ar] 43)):=(ai _ _).alloc (ah _) _;have bD:=ae (h.below hal);have hx:=bU.new w t.sh t.c t.r t.ac t.ar;have h2:=h.few;have hct:=h.cnt;have hbl:=h.blt;have aU:=ae hal;clear h hal;go_enter Tryz.func121,Tryz.ntmps121;go_upto_region 1 with (fail)
 generalize w.alloc (.cells #[.string t.sh,.int .i64 t.c,.int .i64 t.r,.bool t.ac,.bool t.ar] 43)=w1 at bD aU hx ⊢;obtain⟨c0,c1,c2,c3⟩:=bD.o.facts;have f1:=bD.o.frozen 1;clear c0 c2 c3;go_upto_region 2 with (fail)
 have dB:=ae (bD.o.next hnx);have bT:=ae (hx.set (show w.heap.size≠b by omega) 1 (.int .i64 ((p:Int)+1)));have bI:=ae ((Fr.of b aU.o).setCell 1 (.int .i64 ((p:Int)+1)));clear c1 f1 hx bD aU;generalize w1.setCell ⟨b,1,none⟩ (.int .i64 ((p:Int)+1))=w2 at dB bT bI ⊢;have HT:=ae (Lh dB.o ⟨#[58]⟩);have hw0:w.heap.size≠b:=by omega
 cases hq:au ⟨#[58]⟩ (ts.drop (p+1))
 · rw[hq,if_neg (by decide)]at HT
   have HR:=ae (show jc base t (ts.drop (p+1)) = .ok ([{ Nd.zero with kind:=5,ref:=t.dw }],base,ts.drop (p+1))by unfold jc;rw[hq,if_neg (by decide)]);clear hq;go_upto_region 3 with (go_at_call 144;((with_reducible refine HT.o.mono ?_);rintro e w3 ⟨h1,rfl,h3⟩;have dD:=ae (bI.o.trans h1);have dZ:=ae (bT.o.fr h1 hw0);have aW:=ae h3;clear h1 h3))
   obtain⟨x0,x1,x2,x3,x4⟩:=dZ.o.facts;have HA:=ae (show Calls Tryz.prog 118 #[.pointer (some ⟨b,0,none⟩),.agg #[.int .i64 5,.int .i64 0,.string ⟨#[]⟩,.string t.sh,.int .i64 t.c,.int .i64 t.r,.bool t.ac,.bool t.ar,.string ⟨#[]⟩,.int .i64 0,.int .i64 0,.bool false,.bool false,.slice none 0 0]] w3 _ from CO aW.o (az.leaf { Nd.zero with kind:=5,ref:=t.dw }) (wY _ _ _ rfl) (by omega) (.slice none 0 0) rfl { Nd.zero with kind:=5,ref:=t.dw } rfl);go_wp2_with (go_at_call 118;((with_reducible refine HA.o.mono ?_);rintro e w4 ⟨h1,rfl,aT,h3⟩;have dL:=ae (dD.o.trans h1);have cO:=ae h3;clear h1 h3))
   go_ret;exact Out.leaf HR.o dL.o rfl cO.o
 · have wV:=Aj dB.o hq
   rw[hq,if_pos rfl]at HT;obtain⟨u,hu⟩:∃u,ts[p+2]? = some u:=⟨_,dm wV⟩
   have hd:(ts.drop (p+1)).tail=u :: ts.drop (p+3):=by
    rw[List.tail_drop,List.drop_eq_getElem_cons wV];rw[dm wV]at hu;rw[dU hu]
   have hR:jc base t (ts.drop (p+1))=if u.kind=4∧eD t.dw u.dw=true then .ok ([(⟨6,0,⟨#[]⟩,t.dw,u.dw,[]⟩:Nd)],base,ts.drop (p+3))else .error 5:=by
    unfold jc;rw[hq,if_pos rfl,hd] <;> rfl
   clear hq hd
   go_upto_region 6 with (first
    | (go_at_call 144;((with_reducible refine HT.o.mono ?_);rintro e w3 ⟨h1,rfl,h3⟩;have dD:=ae (bI.o.trans h1);have dZ:=ae (bT.o.fr h1 hw0);have aW:=ae h3;have aM:=ae (Gu h3 u hu);clear h1 h3))
    | (go_at_call 61;((with_reducible refine aM.o.mono ?_);rintro e w4 ⟨rfl,h1⟩;have dL:=ae (dD.o.below h1);have nJ:=ae (dZ.o.below h1 dZ.o.lt);have cO:=ae (aW.o.below h1);clear h1)))
   have hB:Below w4.heap.size w4 (w4.alloc (.cells #[.int .i64 u.kind,.string u.text,.int .i64 u.num,.string u.sh,.int .i64 u.c,.int .i64 u.r,.bool u.ac,.bool u.ar,.int .i64 u.pos] 71)):=(ai _ _).alloc (ah _) _;have fP:aC (w4.alloc (.cells #[.int .i64 u.kind,.string u.text,.int .i64 u.num,.string u.sh,.int .i64 u.c,.int .i64 u.r,.bool u.ac,.bool u.ar,.int .i64 u.pos] 71)) w4.heap.size u:=aC.new w4 u;have aR:=ae (dL.o.below hB);have nK:=ae (nJ.o.below hB nJ.o.lt);have aP:=ae (cO.o.below hB);clear hB dD dZ aW aM dL nJ cO HT bT dB bI;generalize hb4:w4.heap.size=b4 at fP ⊢;generalize w4.alloc (.cells #[.int .i64 u.kind,.string u.text,.int .i64 u.num,.string u.sh,.int .i64 u.c,.int .i64 u.r,.bool u.ac,.bool u.ar,.int .i64 u.pos] 71)=w5 at fP aR nK aP ⊢;clear hb4;obtain⟨x0,x1,x2,x3,x4,x5,x6,x7,av⟩:=fP.cells;obtain⟨y0,y1,y2,y3,y4⟩:=nK.o.facts;by_cases h4:u.kind=4
   · have e4:(u.kind != 4)=false:=by rw[h4];rfl
     have e5:(u.kind == 4)=true:=beq_iff_eq.2 h4;have HI:=ae (QU t.sh u.sh t.c t.r u.c u.r t.ac t.ar u.ac u.ar w5);cases hs:eD t.dw u.dw
     · have HR:=ae (show jc base t (ts.drop (p+1)) = .error 5 by rw[hR,hs,if_neg (by simp)])
       have HS:=ae (show eD ⟨t.sh,t.c,t.r,t.ac,t.ar⟩ ⟨u.sh,u.c,u.r,u.ac,u.ar⟩=false from hs);rw[HS.o]at HI;clear hR hs h4;go_wp2_with (go_at_call 125;((with_reducible refine HI.o.mono ?_);rintro e w6 ⟨rfl,h1⟩;have dM:=ae (aR.o.below h1);clear h1))
       go_ret;exact Out.err HR.o (.inl rfl) dM.o
     · have HR:=ae (show jc base t (ts.drop (p+1)) = .ok ([(⟨6,0,⟨#[]⟩,t.dw,u.dw,[]⟩:Nd)],base,ts.drop (p+3))by rw[hR,hs,if_pos ⟨h4,rfl⟩])
       have HS:=ae (show eD ⟨t.sh,t.c,t.r,t.ac,t.ar⟩ ⟨u.sh,u.c,u.r,u.ac,u.ar⟩=true from hs);rw[HS.o]at HI;have dG:=ae (aP.o.fit.next hu (by omega));have fP:=ae fP;clear hR hs h4 x0 x1 x2 x3 x4 x5 x6 x7 av y0 y1 y2 y3 y4;obtain⟨x0,x1,x2,x3,x4,x5,x6,x7,av⟩:=fP.o.cells;obtain⟨y0,y1,y2,y3,y4⟩:=nK.o.facts;go_upto_region 8 with (go_at_call 125;((with_reducible refine HI.o.mono ?_);rintro e w6 ⟨rfl,h1⟩;have dM:=ae (aR.o.below h1);have dE:=ae (aP.o.below h1);have EB:=ae (nK.o.below h1 nK.o.lt);have Ct:=ae (fP.o.below h1 fP.o.lt);clear h1))
       clear x0 x1 x2 x3 x4 x5 x6 x7 av y0 y1 y2 y3 y4;obtain⟨x0,x1,x2,x3,x4,x5,x6,x7,av⟩:=Ct.o.cells;obtain⟨y0,y1,y2,y3,y4⟩:=EB.o.facts;have HA:=ae (show Calls Tryz.prog 120 #[.pointer (some ⟨b,0,none⟩),.agg #[.int .i64 6,.int .i64 0,.string ⟨#[]⟩,.string t.sh,.int .i64 t.c,.int .i64 t.r,.bool t.ac,.bool t.ar,.string u.sh,.int .i64 u.c,.int .i64 u.r,.bool u.ac,.bool u.ar,.slice none 0 0]] w6 _ from Bq dE.o dG.o (⟨6,0,⟨#[]⟩,t.dw,u.dw,[]⟩:Nd) rfl);go_wp2_with (go_at_call 120;((with_reducible refine HA.o.mono ?_);rintro e w7 ⟨h1,rfl,aT,h3⟩;have bM:=ae (dM.o.trans h1);have bB:=ae h3;clear h1 h3))
       go_ret;exact Out.leaf HR.o bM.o rfl bB.o
   · have e4:(u.kind != 4)=true:=by rw[bne_iff_ne];exact h4
     have e5:(u.kind == 4)=false:=beq_eq_false_iff_ne.2 h4;have HR:=ae (show jc base t (ts.drop (p+1)) = .error 5 by rw[hR,if_neg (fun h=>h4 h.1)]);clear hR h4;go_wp2_with fail
     go_ret;exact Out.err HR.o (.inl rfl) aR.o
theorem Out.ret {res:dR}{w w':World}{b:Nat}{tv:Value}{ts:List ag}{deep:Nat}{vs:List az}{e:Ending}(h:Out res w b tv ts deep vs e w'):∃c,e = .returned (.int .i64 c):=by
 rcases h.2 with ⟨c,_,_,h⟩|⟨_,_,_,_,h,_⟩
 · exact⟨c,h⟩
 · exact⟨0,h⟩
theorem Out.bad {res:dR}{w w':World}{b:Nat}{tv:Value}{ts:List ag}{deep:Nat}{vs:List az}{e:Ending}{c:Int}(h:Out res w b tv ts deep vs e w')(hr:res = .error c):Fr w w' b∧(c=5∨c=6)∧e = .returned (.int .i64 c):=by
 rcases h.2 with ⟨c',h1,h2,h3⟩|⟨ms,a,r,h1,_⟩
 · rw[hr]at h1;injection h1 with h1;subst h1;exact⟨h.1,h2,h3⟩
 · rw[hr]at h1;cases h1
theorem Out.ry {res:dR}{w w':World}{b:Nat}{tv:Value}{ts:List ag}{deep:Nat}{vs:List az}{e:Ending}{ms:List Nd}{a:Nat}{r:List ag}(h:Out res w b tv ts deep vs e w')(hr:res = .ok (ms,a,r)) :
 Fr w w' b∧e = .returned (.int .i64 0)∧∃p' aT us,ts.drop p'=r∧us.map az.n=ms∧(∀u∈us,∀g,u.aS.ownBlock=some g→w.heap.size≤g)∧bN w' b tv ts p' deep aT (vs++us):=by
 rcases h.2 with ⟨c',h1,h2,h3⟩|⟨ms',a',r',h1,h2,h3⟩
 · rw[hr]at h1;cases h1
 · rw[hr]at h1;injection h1 with h1;injection h1 with e1 e2;injection e2 with e2 e3;subst e1;subst e3;exact⟨h.1,h2,h3⟩
theorem GM {w:World}{b:Nat}{tv:Value}{ts:List ag}{p deep:Nat}{nv:Value}{vs:List az}(h:bN w b tv ts p deep nv vs)(a:Nat)(ha:a+1=vs.length) :
 Calls Tryz.prog 119 #[.pointer (some ⟨b,0,none⟩)] w fun e w'=>e = .returned (.int .i64 (a:Int))∧w=w':=by
 have:=ae0 h (by omega);rw[show(vs.length:Int) - 1=(a:Int)by omega]at this;exact this
theorem Gq (w:World)(base:Nat)(x y:Int)(hb:base≤w.heap.size):Own (aK .i64) 3 (w.alloc (.cells #[.int .i64 x,.int .i64 y] 3)) base (.slice (some ⟨w.heap.size,0,none⟩) 2 2) [x,y] :=
 ⟨rfl,.inr ⟨w.heap.size,2,_,rfl,hb,(ko w _).1,ah _,by decide,rfl,rfl⟩⟩
theorem Gp (w:World)(base:Nat)(x:Int)(hb:base≤w.heap.size):Own (aK .i64) 3 (w.alloc (.cells #[.int .i64 x] 3)) base (.slice (some ⟨w.heap.size,0,none⟩) 1 1) [x] :=
 ⟨rfl,.inr ⟨w.heap.size,1,_,rfl,hb,(ko w _).1,ah _,by decide,rfl,rfl⟩⟩
def xw (f:Nat):Prop:=∀(n deep:Nat)(res:dR)(w:World)(b:Nat)(tv:Value)(ts:List ag)(p:Nat)(nv:Value)(vs:List az),n≤4→bN w b tv ts p deep nv vs→dX f n deep vs.length (ts.drop p)=some res →
 Calls Tryz.prog 60 #[.pointer (some ⟨b,0,none⟩),.int .i64 (n:Int)] w (Out res w b tv ts deep vs)
theorem xY {f n deep base:Nat}{ts:List ag}{p p':Nat}{ns:List Nd}{a:Nat}{r:List ag}(h:dX f n deep base (ts.drop p)=some (.ok (ns,a,r)))(hr:ts.drop p'=r)(hl:p'<ts.length):ns.length+p≤p'∧a+1=base+ns.length∧1≤ns.length:=by
 have h1:=(O1 f).1 _ _ _ _ _ _ _ h;have h2:=(uU f).1 _ _ _ _ _ _ _ h;subst hr;rw[List.length_drop,List.length_drop]at h1;exact⟨by omega,h2.2.1,h2.2.2⟩
theorem ae4 (f:Nat)(IH:∀g,g≤f→xw g)(n:Nat)(hn:n≤3){w:World}{b:Nat}{tv:Value}{ts:List ag}{p deep:Nat}{nv:Value}{vs:List az}(h:bN w b tv ts p deep nv vs)(res:dR)
 (aj:iC (dX f (n+1) deep vs.length (ts.drop p)) (fun ns a r=>gZ f n deep vs.length ns a r)=some res) :
 Calls Tryz.prog 115 #[.pointer (some ⟨b,0,none⟩),.int .i64 (n:Int)] w (Out res w b tv ts deep vs):=by
 have hw1 : -9223372036854775808≤(n:Int)+1:=by omega
 have hw2:(n:Int)+1≤9223372036854775807:=by omega
 have uH:n+1≤4:=by omega
 rcases dP aj with ⟨c,h1,rfl⟩|⟨ns,a,r,h1,h2⟩
 · have HL:=ae (show Calls Tryz.prog 60 #[.pointer (some ⟨b,0,none⟩),.int .i64 ((n:Int)+1)] w (Out (.error c) w b tv ts deep vs)from IH f (ah _) (n+1) deep _ w b tv ts p nv vs uH h h1)
   clear aj h1 IH h;go_enter Tryz.func115,Tryz.ntmps115;go_wp2_with (go_at_call 60;((with_reducible refine HL.o.mono ?_);intro e w2 ho;obtain⟨hf,hc,rfl⟩:=ho.bad rfl;have HF:=ae hf;have HC:=ae hc;have hc0:(c != 0)=true:=(by rw[bne_iff_ne];rcases hc with h|h <;> omega);clear hf hc ho))
   go_ret;exact Out.err rfl HC.o HF.o
 · have HL := ae (show Calls Tryz.prog 60 #[.pointer (some ⟨b,0,none⟩),.int .i64 ((n:Int)+1)] w (Out (.ok (ns,a,r)) w b tv ts deep vs)from IH f (ah _) (n+1) deep _ w b tv ts p nv vs uH h h1)
   have qR:=ae IH;have H1:=ae h1;have H2:=ae h2;have hcn:=h.cnt;have HP:=ae h;clear aj h1 h2 IH h;go_enter Tryz.func115,Tryz.ntmps115;go_upto_region 4 with (go_at_call 60;((with_reducible refine HL.o.mono ?_);intro e w2 ho;obtain⟨hf,rfl,p1,nv1,us1,hp1,hu1,hk1,Qn⟩:=ho.ry rfl;have jT:=ae hf;have bD:=ae Qn;have HD1:=ae hp1;have I8:=ae hu1;have lN:=ae hk1;clear hf ho hp1 hu1 hk1 Qn))
   go_loopw [] (fun wr=>∃(g:Nat)(ns':List Nd)(a' p':Nat)(aT:Value)(us:List az),g≤f∧a'+1=vs.length+ns'.length∧us.length=ns'.length∧Hid (gZ g n deep vs.length ns' a' (ts.drop p')=some res)∧Hid (us.map az.n=ns')∧Hid (∀u∈us,∀j,u.aS.ownBlock=some j→w.heap.size≤j)∧Hid (bN wr b tv ts p' deep aT (vs++us))∧Hid (Fr w wr b))
    (fun wr=>vR b ts.length wr)
   case atStart =>
    have h3:=xY H1.o HD1.o bD.o.lt;refine⟨f,ns,a,p1,nv1,us1,ah _,h3.2.1,by rw[← I8.o,fw], ?_,I8,lN,bD,jT⟩;rw[HD1.o];exact H2
   case round =>
    clear HL H1 H2 jT bD HD1 I8 lN;obtain⟨g,ns',a',p',aT,us,hg,ha,zO,HR,HU,HK,iA,HF⟩:=hrel;have hlt:=iA.o.lt;have jZ:=iA.o.few;have sH:=iA.o.cnt;rw[ak]at sH;have HM:=ae (iA.o.vR ts.length);have HO:=ae (adt iA.o n hn)
    match g,hg,HR with
    | 0,_,HR=>have:=HR.o;unfold gZ at this;cases this
    | g+1,hg,HR =>
    have hr:=HR.o;rw[pG]at hr;by_cases h0:eH n (ts.drop p')=0
    · rw[if_pos h0]at hr
      injection hr with hr;have IV:=ae hr.symm;rw[h0]at HO;have HO:=ae (show Calls Tryz.prog 143 #[.pointer (some ⟨b,0,none⟩),.int .i64 (n:Int)] wr fun e w'=>e = .returned (.tuple #[.int .i64 0,.bool false])∧Below wr.heap.size wr w' from HO.o);clear hr h0 HR;go_wp2_with (go_at_call 143;((with_reducible refine HO.o.mono ?_);rintro e w3 ⟨rfl,h1⟩;have dD:=ae (HF.o.below h1);have aW:=ae (iA.o.below h1);clear h1))
      go_ret;exact⟨dD.o,.inr ⟨_,_,_,IV.o,rfl,p',aT,us,rfl,HU.o,HK.o,aW.o⟩⟩
    · rw [if_neg h0]at hr
      obtain⟨kd,hkd⟩:∃kd,eH n (ts.drop p')=kd:=⟨_,rfl⟩;obtain⟨q,hq1,hq2,hq3⟩:=Dx h0;have hnx:=Aj iA.o hq2;clear hq1 hq2 hq3 q;rw[hkd]at HO hr h0;have HO:=ae (show Calls Tryz.prog 143 #[.pointer (some ⟨b,0,none⟩),.int .i64 (n:Int)] wr fun e w'=>e = .returned (.tuple #[.int .i64 kd,.bool true])∧Below wr.heap.size wr w' by have:=HO.o;rw[decide_eq_true h0]at this;exact this);rw[List.tail_drop]at hr;have jk:vs.length+ns'.length=(vs++us).length:=by rw[ak,zO]
      rw[jk]at hr;have HRR:=ae hr;clear hr h0 HR hkd;go_upto_region 7 with (go_at_call 143;((with_reducible refine HO.o.mono ?_);rintro e w3 ⟨rfl,h1⟩;have dD:=ae (HF.o.below h1);have aW:=ae (iA.o.below h1);clear h1))
      clear HO HF iA;obtain⟨c0,c1,c2,c3⟩:=aW.o.facts;have f1:=aW.o.frozen 1;clear c0 c2 c3;go_upto_region 8 with (fail)
      have cO:=ae (aW.o.next hnx);have dL:=ae (dD.o.setCell 1 (.int .i64 ((p':Int)+1)));clear c1 f1 aW dD;generalize w3.setCell ⟨b,1,none⟩ (.int .i64 ((p':Int)+1))=w4 at cO dL ⊢;have IW:=ae (GM cO.o a' (by rw[ha,jk]));rcases dP HRR.o with ⟨c,h1,h2⟩|⟨ms,b2,r2,h1,h2⟩
      · subst h2
        have HL:=ae (show Calls Tryz.prog 60 #[.pointer (some ⟨b,0,none⟩),.int .i64 ((n:Int)+1)] w4 (Out (.error c) w4 b tv ts deep (vs++us))from qR.o g (by omega) (n+1) deep _ w4 b tv ts (p'+1) aT (vs++us) uH cO.o h1);clear h1 HRR
        go_wp2_with (first
         | (go_at_call 119;((with_reducible refine IW.o.mono ?_);rintro e wn ⟨rfl,rfl⟩))
         | (go_at_call 60;((with_reducible refine HL.o.mono ?_);intro e w5 ho;obtain⟨hf,hc,rfl⟩:=ho.bad rfl;have aR:=ae (dL.o.trans hf);have HC:=ae hc;have hc0:(c != 0)=true:=(by rw[bne_iff_ne];rcases hc with h|h <;> omega);clear hf hc ho)))
        go_ret;exact Out.err rfl HC.o aR.o
      · have HL := ae (show Calls Tryz.prog 60 #[.pointer (some ⟨b,0,none⟩),.int .i64 ((n:Int)+1)] w4 (Out (.ok (ms,b2,r2)) w4 b tv ts deep (vs++us))from qR.o g (by omega) (n+1) deep _ w4 b tv ts (p'+1) aT (vs++us) uH cO.o h1)
        have H1:=ae h1;have H2:=ae h2;clear h1 h2 HRR
        go_upto_region 12 with (first
         | (go_at_call 119;((with_reducible refine IW.o.mono ?_);rintro e wn ⟨rfl,rfl⟩))
         | (go_at_call 60;((with_reducible refine HL.o.mono ?_);intro e w5 ho;obtain⟨hf,rfl,p5,nP,dz,kU,kW,hk5,iD⟩:=ho.ry rfl;have AR:=ae hf.size;have aR:=ae (dL.o.trans hf);have aP:=ae iD;have HD5:=ae kU;have ky:=ae kW;have kv:=ae hk5;clear hf ho kU kW hk5 iD)))
        obtain⟨hc1,hc2,hc3⟩:=xY H1.o HD5.o aP.o.lt;have FH:dz.length=ms.length:=by rw[← ky.o,fw]
        have Fv:((vs++us)++dz).length=vs.length+us.length+dz.length:=by rw[ak,ak]
        have aiy:(vs++us).length=vs.length+us.length:=ak;have Ew:=ae (GM aP.o b2 (by omega));have hbl:=aP.o.blt;have gG:Below w5.heap.size w5 (w5.alloc (.cells #[.int .i64 (a':Int),.int .i64 (b2:Int)] 3)):=(ai _ _).alloc (ah _) _;have dE:=ae (aP.o.below gG);have dM:=ae (aR.o.below gG);have HA:=ae (show Calls Tryz.prog 118 #[.pointer (some ⟨b,0,none⟩),.agg #[.int .i64 kd,.int .i64 0,.string ⟨#[]⟩,.string ⟨#[]⟩,.int .i64 0,.int .i64 0,.bool false,.bool false,.string ⟨#[]⟩,.int .i64 0,.int .i64 0,.bool false,.bool false,.slice (some ⟨w5.heap.size,0,none⟩) 2 2]] (w5.alloc (.cells #[.int .i64 (a':Int),.int .i64 (b2:Int)] 3)) _ from CO dE.o ⟨{ Nd.zero with kind:=kd,kids:=[(a':Int),(b2:Int)] },some (w5.heap.size,2)⟩ (Gq w5 (b+1) (a':Int) (b2:Int) (by omega)) (by omega) (.slice (some ⟨w5.heap.size,0,none⟩) 2 2) rfl { Nd.zero with kind:=kd,kids:=[(a':Int),(b2:Int)] } rfl);clear gG HL IW
        go_wp2_with (first
         | (go_at_call 119;((with_reducible refine Ew.o.mono ?_);rintro e wn ⟨rfl,rfl⟩))
         | (go_at_call 118;((with_reducible refine HA.o.mono ?_);rintro e w7 ⟨h1,rfl,zZ,h3⟩;have bM:=ae (dM.o.trans h1);have bB:=ae h3;clear h1 h3)))
        go_roundw
        case rel =>
         refine⟨g,ns'++(ms++[{ Nd.zero with kind:=kd,kids:=[(a':Int),(b2:Int)] }]),vs.length+(ns'.length+ms.length),p5,zZ,us++(dz++[⟨{ Nd.zero with kind:=kd,kids:=[(a':Int),(b2:Int)] },some (w5.heap.size,2)⟩]),by omega, ?_, ?_, ?_, ?_, ?_, ?_,bM⟩;rotate_left 2
         · rw[HD5.o];exact H2
         · refine ae ?_
           rw[iy,iy,HU.o,ky.o];rfl
         · refine ae ?_
           intro u hu j hj;rcases List.mem_append.1 hu with hu|hu
           · exact HK.o u hu j hj
           · rcases List.mem_append.1 hu with hu|hu
             · have:=kv.o u hu j hj;have:=dL.o.size;omega
             · rw[List.mem_singleton.1 hu]at hj
               have hj:some w5.heap.size=some j:=hj;injection hj with hj;have:=aR.o.size;omega
         · rw[← bG, ← bG];exact bB
         · rw[ak,ak,fK];omega
         · rw[ak,ak,ak,ak,fK,fK];omega
        case measure =>
         have h1:=bB.o.vR ts.length;rw[HM.o,h1];omega
def EZ (f deep base:Nat)(ts:List ag):Option dR :=
 if au ⟨#[40]⟩ ts=true then
  if 12≤deep then some (.error 6)
  else iC (dX f 0 (deep+1) base ts.tail) fun ns a r=>if au ⟨#[41]⟩ r=true then some (.ok (ns,a,r.tail))else some (.error 5)
 else some (.error 5)
theorem aaE (f:Nat)(IH:xw f){w:World}{b:Nat}{tv:Value}{ts:List ag}{p deep:Nat}{nv:Value}{vs:List az}(h:bN w b tv ts p deep nv vs)(res:dR)(aj:EZ f deep vs.length (ts.drop p)=some res) :
 Calls Tryz.prog 123 #[.pointer (some ⟨b,0,none⟩)] w (Out res w b tv ts deep vs):=by
 have HS:=ae (zQ h ⟨#[40]⟩);unfold EZ at aj;have HP:=ae h;cases hq:au ⟨#[40]⟩ (ts.drop p)
 · rw[hq,if_neg (by decide)]at aj
   injection aj with aj;have HR:=ae aj.symm;rw[hq]at HS;clear hq aj h;go_enter Tryz.func123,Tryz.ntmps123;go_wp2_with (go_at_call 116;((with_reducible refine HS.o.mono ?_);rintro e w1 ⟨rfl,h1⟩;have HB:=ae h1;clear h1))
   go_ret;exact Out.err HR.o (.inl rfl) (Fr.of b HB.o)
 · have hnx:=Aj h hq
   rw[hq,if_pos rfl]at aj;rw[hq]at HS;by_cases hd:12≤deep
   · rw [if_pos hd]at aj
     injection aj with aj;have HR:=ae aj.symm;clear hq aj h;go_enter Tryz.func123,Tryz.ntmps123
     go_wp2_with (first
      | (go_at_call 116;((with_reducible refine HS.o.mono ?_);rintro e w1 ⟨rfl,h1⟩;have jT:=ae (Fr.of b h1);have fB:=ae (yw (HP.o.below h1) hnx);clear h1))
      | (go_at_call 117;((with_reducible refine fB.o.mono ?_);rintro e w2 ⟨h1,⟨-,rfl⟩|⟨h2, -⟩⟩;rotate_left;exact absurd hd h2;have bI:=ae (jT.o.trans h1);clear h1)))
     go_ret;exact Out.err HR.o (.inr rfl) bI.o
   · rw [if_neg hd,List.tail_drop]at aj
     rcases dP aj with ⟨c,h1,rfl⟩|⟨ns,a,r,h1,h2⟩
     · have HI:=ae (fun w2 hps=>IH 0 (deep+1) _ w2 b tv ts (p+1) nv vs (by omega) hps h1)
       clear hq aj h IH h1;go_enter Tryz.func123,Tryz.ntmps123
       go_wp2_with (first
        | (go_at_call 116;((with_reducible refine HS.o.mono ?_);rintro e w1 ⟨rfl,h1⟩;have jT:=ae (Fr.of b h1);have fB:=ae (yw (HP.o.below h1) hnx);clear h1))
        | (go_at_call 117;((with_reducible refine fB.o.mono ?_);rintro e w2 ⟨h1,⟨h2, -⟩|⟨-,rfl,h3⟩⟩;exact absurd h2 hd;have bI:=ae (jT.o.trans h1);have HL:=ae (show Calls Tryz.prog 60 #[.pointer (some ⟨b,0,none⟩),.int .i64 0] w2 (Out (.error c) w2 b tv ts (deep+1) vs)from HI.o w2 h3);clear h1 h3))
        | (go_at_call 60;((with_reducible refine HL.o.mono ?_);intro e w5 ho;obtain⟨hf,hc,rfl⟩:=ho.bad rfl;have aR:=ae (bI.o.trans hf);have HC:=ae hc;have hc0:(c != 0)=true:=(by rw[bne_iff_ne];rcases hc with h|h <;> omega);clear hf hc ho)))
       go_ret;exact Out.err rfl HC.o aR.o
     · have HI:=ae (fun w2 hps=>IH 0 (deep+1) _ w2 b tv ts (p+1) nv vs (by omega) hps h1)
       have H2:=ae h2;clear hq aj h IH h1 h2;go_enter Tryz.func123,Tryz.ntmps123
       go_upto_region 9 with (first
        | (go_at_call 116;((with_reducible refine HS.o.mono ?_);rintro e w1 ⟨rfl,h1⟩;have jT:=ae (Fr.of b h1);have HZ1:=ae h1.size;have fB:=ae (yw (HP.o.below h1) hnx);clear h1))
        | (go_at_call 117;((with_reducible refine fB.o.mono ?_);rintro e w2 ⟨h1,⟨h2, -⟩|⟨-,rfl,h3⟩⟩;exact absurd h2 hd;have bI:=ae (jT.o.trans h1);have HL:=ae (show Calls Tryz.prog 60 #[.pointer (some ⟨b,0,none⟩),.int .i64 0] w2 (Out (.ok (ns,a,r)) w2 b tv ts (deep+1) vs)from HI.o w2 h3);clear h1 h3))
        | (go_at_call 60;((with_reducible refine HL.o.mono ?_);intro e w5 ho;obtain⟨hf,rfl,p5,nP,dz,kU,kW,hk5,iD⟩:=ho.ry rfl;have aR:=ae (bI.o.trans hf);have Ej:=ae (SE iD);have HD5:=ae kU;have ky:=ae kW;have kv:=ae hk5;clear hf ho kU kW hk5 iD)))
       have h2:=H2.o;rw[← HD5.o]at h2;have hz:=bI.o.size;cases hs:au ⟨#[41]⟩ (ts.drop p5)
       · rw[hs,if_neg (by decide)]at h2
         injection h2 with h2;have HR:=ae h2.symm;rw[hs]at Ej;clear h2 hs;go_wp2_with (go_at_call 146;((with_reducible refine Ej.o.mono ?_);rintro e w6 ⟨h1,⟨-,rfl⟩|⟨h2, -⟩⟩;rotate_left;cases h2;have dM:=ae (aR.o.trans h1);clear h1))
         go_ret;exact Out.err HR.o (.inl rfl) dM.o
       · rw[hs,if_pos rfl,List.tail_drop]at h2
         injection h2 with h2;have HR:=ae h2.symm;rw[hs]at Ej;clear h2 hs;go_wp2_with (go_at_call 146;((with_reducible refine Ej.o.mono ?_);rintro e w6 ⟨h1,⟨h2, -⟩|⟨-,rfl,h3⟩⟩;cases h2;have dM:=ae (aR.o.trans h1);have dE:=ae h3;clear h1 h3))
         go_ret;exact⟨dM.o,.inr ⟨_,_,_,HR.o,rfl,p5+1,nP,dz,rfl,ky.o,fun u hu j hj=>bF hz (kv.o u hu j hj),dE.o⟩⟩
theorem Elem.kid:∃n,n≤100∧Elem Tryz.prog 28 3 1 n:=⟨8,by omega,Tryz.underlying28,⟨.int .i64 0,by kernel_rfl,rfl⟩,by decide⟩
theorem Own.jX {α : Type}{size:Nat}{E:Enc α size}{e:TypeId}{w:World}{base:Nat}{v:Value}{xs:List α}(h:Own E e w base v xs):∀g,v.ownBlock=Option.some g→base≤g∧g<w.heap.size∧∃cur,w.heap[g]? = Option.some (.cells cur e):=by
 intro g e;rcases h.2 with ⟨h1,_⟩|⟨g',cap,cur,h1,h2,h3,_⟩
 · rw[h1]at e;cases e
 · rw[h1]at e;injection e with e
   have e:g'=g:=e;subst e;exact⟨h2,(dO.1 h3).1,cur,h3⟩
theorem bN.kids {w w':World}{b:Nat}{tv:Value}{ts:List ag}{p deep:Nat}{nv:Value}{vs:List az}(h:bN w b tv ts p deep nv vs){r:Option Nat}(hg:w.grownBy w' r)(hr:∀g,r=some g→b<g∧¬ AX w g∧∀v∈vs,v.aS.ownBlock≠some g):bN w' b tv ts p deep nv vs:=by
 have wU:=h.low;refine⟨?_, ?_,⟨h.nodes.1.keep ?_,fun v hv=>(h.nodes.2 v hv).keep ?_⟩, ?_,h.lt,h.low,h.fit,h.few,h.cnt,h.nest⟩
 · rw[hg.block b h.blt (by intro e;have:=(hr b e.symm).1;omega)];exact h.cell
 · obtain ⟨g,cap,h1,h2,h3⟩:=h.pU
   exact ⟨g,cap,h1,h2,h3.keep fun j _ hj e=>hg.block j hj (by
    intro e2;have:=(hr j e2.symm).1;rw[h1]at e;injection e with e;have:g=j:=e;omega)⟩
 · intro g h1 h2 h3
   exact hg.block g h2 (fun e=>(hr g e.symm).2.1 (h.row g h3).2)
 · intro g h1 h2 h3
   exact hg.block g h2 (fun e=>(hr g e.symm).2.2 v hv h3)
 · exact h.ops.keep (hg.block _ h.ops.lt (by intro e;have:=(hr _ e.symm).1;omega))
def rZ (base:Nat)(name:ByteArray)(ns:List Nd)(ks:List Int)(r:List ag):Option dR :=
 if au ⟨#[41]⟩ r=true then some (.ok (ns++[{ Nd.zero with kind:=7,text:=name,kids:=ks }],base+ns.length,r.tail))else some (.error 5)
def Ba (f deep base:Nat)(name:ByteArray)(ts:List ag):Option dR :=
 if 12≤deep then some (.error 6)
 else iC (if au ⟨#[41]⟩ ts.tail=true then some (.ok ([],[],ts.tail))else gB f (deep+1) base [] [] ts.tail) (rZ base name)
theorem XK (f:Nat)(name:ByteArray){w:World}{b:Nat}{tv:Value}{ts:List ag}{p deep:Nat}{nv:Value}{vs:List az}(h:bN w b tv ts p deep nv vs)(hnx:p+1<ts.length)(res:dR)(aj:Ba f deep vs.length name (ts.drop p)=some res)(hd:12≤deep) :
 Calls Tryz.prog 145 #[.pointer (some ⟨b,0,none⟩),.string name] w (Out res w b tv ts deep vs):=by
 have HO:=ae (yw h hnx);unfold Ba at aj;rw[if_pos hd]at aj;injection aj with aj;have HR:=ae aj.symm;clear aj h;go_enter Tryz.func145,Tryz.ntmps145;go_wp2_with (go_at_call 117;((with_reducible refine HO.o.mono ?_);rintro e w2 ⟨h1,⟨-,rfl⟩|⟨h2, -⟩⟩;rotate_left;exact absurd hd h2;have bI:=ae h1;clear h1))
 go_ret;exact Out.err HR.o (.inr rfl) bI.o
theorem OD {α β γ α' β' γ' δ : Type}(x:Option (Except Int (α × β × γ)))(k : α → β → γ → Option (Except Int (α' × β' × γ')))(K : α' → β' → γ'→Option (Except Int δ)):iC (iC x k) K=iC x fun a b c=>iC (k a b c) K:=by
 match x with
 | none=>rfl
 | some (.error e)=>rfl
 | some (.ok (a,b,c))=>rfl
theorem XJ (f:Nat)(IH:∀g,g≤f→xw g)(name:ByteArray){w:World}{b:Nat}{tv:Value}{ts:List ag}{p deep:Nat}{nv:Value}{vs:List az}(h:bN w b tv ts p deep nv vs)(hnx:p+1<ts.length)(res:dR)(aj:Ba f deep vs.length name (ts.drop p)=some res) :
 Calls Tryz.prog 145 #[.pointer (some ⟨b,0,none⟩),.string name] w (Out res w b tv ts deep vs):=by
 by_cases hd:12≤deep
 · exact XK f name h hnx res aj hd
 have HO:=ae (yw h hnx);unfold Ba at aj;rw[if_neg hd,List.tail_drop]at aj;have tT:=ae aj;have qR:=ae IH;have hbl:=h.blt;obtain⟨eb,jK,bV⟩:=Elem.kid;have jH:=ae bV;clear aj h IH bV;go_enter Tryz.func145,Tryz.ntmps145
 go_upto_region 6 with (first
  | (go_at_call 117;((with_reducible refine HO.o.mono ?_);rintro e w2 ⟨h1,⟨h2, -⟩|⟨-,rfl,h3⟩⟩;exact absurd h2 hd;have bI:=ae h1;have dB:=ae h3;have HS2:=ae (zQ h3 ⟨#[41]⟩);clear h1 h3))
  | (go_at_call 116;((with_reducible refine HS2.o.mono ?_);rintro e w3 ⟨rfl,h1⟩;have dD:=ae (bI.o.below h1);have aW:=ae (dB.o.below h1);clear h1)))
 go_loopw [6,7] (fun KD mv wr=>∃(aS:Value)(more:Bool)(g:Nat)(ns:List Nd)(ks:List Int)(p':Nat)(aT:Value)(us:List az),aS=KD∧mv = .bool more∧g≤f∧ks.length≤us.length∧us.length=ns.length ∧
  Hid ((more=true∧iC (gB g (deep+1) vs.length ns ks (ts.drop p')) (rZ vs.length name)=some res)∨(more=false∧rZ vs.length name ns ks (ts.drop p')=some res)) ∧
  Hid (us.map az.n=ns)∧Hid (∀u∈us,∀j,u.aS.ownBlock=some j→w.heap.size≤j)∧Hid (∀u∈vs++us,∀j,u.aS.ownBlock=some j→aS.ownBlock≠some j) ∧
  Hid (Own (aK .i64) 3 wr w.heap.size aS ks)∧Hid (bN wr b tv ts p' (deep+1) aT (vs++us))∧Hid (Fr w wr b))
  (fun _ _ wr=>vR b ts.length wr)
 case atStart =>
  have hr:=tT.o;refine⟨.slice none 0 0,_,f,[],[],p+1,nv,[],rfl,rfl,ah _,ah _,rfl, ?_,ae rfl,ae (by simp),ae (by intro u _ j _ e;cases e),ae (Own.nil _ _ _ _),by rw[fM];exact aW,dD⟩;refine ae ?_;cases hs:au ⟨#[41]⟩ (ts.drop (p+1))
  · rw[hs,if_neg (by decide)]at hr
    exact .inl ⟨rfl,hr⟩
  · rw[hs,if_pos rfl]at hr
    exact .inr ⟨rfl,hr⟩
 case round =>
  clear HO tT bI dB HS2 dD aW;obtain⟨aS,more,g,ns,ks,p',aT,us,rfl,rfl,hg,hkl,zO,HM,HU,HK,HJ,kM,iA,HF⟩:=hrel;have jZ:=iA.o.few;have hlt:=iA.o.lt;have sH:=iA.o.cnt;have hlen:(vs++us).length=vs.length+us.length:=ak;have Eu:=ae (iA.o.vR ts.length);cases more
  · have hK : rZ vs.length name ns ks (ts.drop p')=some res:=by
     rcases HM.o with ⟨h1,_⟩|⟨_,h1⟩
     · cases h1
     · exact h1
    unfold rZ at hK;have HC:=ae (SE iA.o);cases hs:au ⟨#[41]⟩ (ts.drop p')
    · rw[hs,if_neg (by decide)]at hK
      injection hK with hK;have HR:=ae hK.symm;rw[hs]at HC;clear hK hs HM;go_wp2_with (go_at_call 146;((with_reducible refine HC.o.mono ?_);rintro e w6 ⟨h1,⟨-,rfl⟩|⟨h2, -⟩⟩;rotate_left;cases h2;have dM:=ae (HF.o.trans h1);clear h1))
      go_ret;exact Out.err HR.o (.inl rfl) dM.o
    · rw [hs,if_pos rfl,List.tail_drop]at hK
      injection hK with hK;have HR:=ae hK.symm;rw[hs]at HC;clear hK hs HM
      obtain ⟨v,qw,hvk⟩:∃v:az,v.n={ Nd.zero with kind:=7,text:=name,kids:=ks }∧v.aS=aS:=by
       rcases kM.o.shape with ⟨rfl,rfl⟩|⟨g1,cap,rfl,_⟩
       · exact⟨⟨_,none⟩,rfl,rfl⟩
       · exact⟨⟨_,some (g1,cap)⟩,rfl,rfl⟩
      have jV:=ae qw;have mo:=ae hvk;clear qw hvk
      have lv:(∃g1 n1 cap,aS = .slice (some ⟨g1,0,none⟩) n1 cap)∨aS = .slice none 0 0:=by
       rcases kM.o.shape with ⟨h1,_⟩|⟨g1,cap,h1,_⟩
       · exact .inr h1
       · exact .inl ⟨g1,_,cap,h1⟩
      rcases lv with ⟨g1,n1,cap,rfl⟩|rfl
      all_goals
       go_upto_region 15 with (go_at_call 146;((with_reducible refine HC.o.mono ?_);rintro e w6 ⟨h1,⟨h2, -⟩|⟨-,rfl,h3⟩⟩;cases h2;have dM:=ae (HF.o.trans h1);have VL:=ae (kM.o.fr h1 hbl (by decide));have dE:=ae h3;clear h1 h3))
       have HA:=ae (show Calls Tryz.prog 118 #[.pointer (some ⟨b,0,none⟩),.agg #[.int .i64 7,.int .i64 0,.string name,.string ⟨#[]⟩,.int .i64 0,.int .i64 0,.bool false,.bool false,.string ⟨#[]⟩,.int .i64 0,.int .i64 0,.bool false,.bool false,_]] w6 _ from CO dE.o v (by rw[mo.o,jV.o];exact VL.o.mono (by omega)) (by omega) _ mo.o { Nd.zero with kind:=7,text:=name,kids:=ks } jV.o);go_wp2_with (go_at_call 118;((with_reducible refine HA.o.mono ?_);rintro e w7 ⟨h1,rfl,zZ,h3⟩;have bM:=ae (dM.o.trans h1);have bB:=ae h3;clear h1 h3))
       go_ret;refine⟨bM.o,.inr ⟨_,_,_,HR.o,rfl,p'+1,zZ,us++[v],rfl, ?_, ?_,by rw[← bG];exact bB.o⟩⟩
       · rw[iy,HU.o,jr,List.map_nil,jV.o]
       · intro u hu j hj
         rcases List.mem_append.1 hu with hu|hu
         · exact HK.o u hu j hj
         · rw[List.mem_singleton.1 hu,mo.o]at hj
           exact(kM.o.jX j hj).1
  · have hA:iC (gB g (deep+1) vs.length ns ks (ts.drop p')) (rZ vs.length name)=some res:=by
     rcases HM.o with ⟨_,h1⟩|⟨h1,_⟩
     · exact h1
     · cases h1
    match g,hg,hA with
    | 0,_,hA=>unfold gB iC at hA;cases hA
    | g+1,hg,hA =>
    rw[oo,OD]at hA;have jk:vs.length+ns.length=(vs++us).length:=by rw[hlen,zO]
    rw[jk]at hA;rcases dP hA with ⟨c,h1,rfl⟩|⟨ms,a,r,h1,h2⟩
    · have HL:=ae (show Calls Tryz.prog 60 #[.pointer (some ⟨b,0,none⟩),.int .i64 0] wr (Out (.error c) wr b tv ts (deep+1) (vs++us))from qR.o g (by omega) 0 (deep+1) _ wr b tv ts p' aT (vs++us) (by omega) iA.o h1)
      clear h1 hA HM;go_wp2_with (go_at_call 60;((with_reducible refine HL.o.mono ?_);intro e w5 ho;obtain⟨hf,hc,rfl⟩:=ho.bad rfl;have aR:=ae (HF.o.trans hf);have HC:=ae hc;have hc0:(c != 0)=true:=(by rw[bne_iff_ne];rcases hc with h|h <;> omega);clear hf hc ho))
      go_ret;exact Out.err rfl HC.o aR.o
    · have HL:=ae (show Calls Tryz.prog 60 #[.pointer (some ⟨b,0,none⟩),.int .i64 0] wr (Out (.ok (ms,a,r)) wr b tv ts (deep+1) (vs++us))from qR.o g (by omega) 0 (deep+1) _ wr b tv ts p' aT (vs++us) (by omega) iA.o h1)
      have H1:=ae h1;have H2:=ae h2;clear h1 h2 hA HM;go_upto_region 11 with (go_at_call 60;((with_reducible refine HL.o.mono ?_);intro e w5 ho;obtain⟨hf,rfl,p5,nP,dz,kU,kW,hk5,iD⟩:=ho.ry rfl;have aR:=ae (HF.o.trans hf);have tL:=ae (kM.o.fr hf hbl (by decide));have aP:=ae iD;have HD5:=ae kU;have ky:=ae kW;have kv:=ae hk5;clear hf ho kU kW hk5 iD))
      obtain⟨hc1,hc2,hc3⟩:=xY H1.o HD5.o aP.o.lt;have FH:dz.length=ms.length:=by rw[← ky.o,fw]
      have Fv:((vs++us)++dz).length=vs.length+us.length+dz.length:=by rw[ak,ak]
      have Ew:=ae (GM aP.o a (by omega));have Kq:=aR.o.size;have WM:=ae HF.o.size
      have ve:=ae (show ∀u∈(vs++us)++dz,∀j,u.aS.ownBlock=some j→aS.ownBlock≠some j from by
       intro u hu j hj;rcases List.mem_append.1 hu with hu|hu
       · exact HJ.o u hu j hj
       · intro e
         have h3:=kv.o u hu j hj;have h4:=(kM.o.jX j e).2.1;omega)
      clear HL kM HJ
      go_upto_region 7 with (first
       | (go_at_call 119;((with_reducible refine Ew.o.mono ?_);rintro e wn ⟨rfl,rfl⟩))
       | (at_builtin;refine BU jH.o (aK .i64) rfl (.tmp 26) (.tmp 29) rfl w.heap.size aS ks rfl (tL.o.alloc _) ⟨w5.heap.size,0,none⟩ 1 1 [(a:Int)] rfl rfl ?_ ?_ ?_ ?_ ?_;exact gQ _ _ _ rfl;exact bF (Nat.mul_le_mul_left _ jK) (by omega);(unfold maxLen;omega);(simp <;> omega);intro qz w6 h1 h2 h3;have qX:=ae h1;have qQ:=ae h2;have HAT:=ae h3;clear h1 h2 h3))
      have gG:Below w5.heap.size w5 (w5.alloc (.cells #[.int .i64 (a:Int)] 3)):=(ai _ _).alloc (ah _) _;have uC:=tL.o.alloc (.cells #[.int .i64 (a:Int)] 3)
      have dE:=ae ((aP.o.below gG).kids qQ.o (by
       intro j e;obtain⟨q1,q2,cur,q3⟩:=uC.jX j e;refine⟨by omega, ?_,fun u hu e2=>ve.o u hu j e2 e⟩;rintro⟨O3,fr,e2⟩;rw[q3]at e2;injection e2 with e2;injection e2 with _ e2;exact absurd e2 (by decide)))
      have dM:=ae ((aR.o.below gG).row qQ.o (by
       intro j e;obtain⟨q1,q2,cur,q3⟩:=uC.jX j e;exact⟨by omega,.inl q1⟩))
      have En:=ae (show ∀u∈(vs++us)++dz,∀j,u.aS.ownBlock=some j→qz.ownBlock≠some j from by
       intro u hu j hj;rcases HAT.o with e|e
       · rw[e];exact ve.o u hu j hj
       · rw[e]
         have h4:=((aP.o.nodes.2 u hu).jX j hj).2.1;intro e2;injection e2 with e2;simp at e2;omega)
      have rf:=ae (Lh dE.o ⟨#[44]⟩);have h2:=H2.o;rw[← HD5.o]at h2;clear gG uC qQ HAT ve tL HF iA H2 Ew
      have CW:∀u∈us++dz,∀j,u.aS.ownBlock=some j→w.heap.size≤j:=by
       intro u hu j hj;rcases List.mem_append.1 hu with hu|hu
       · exact HK.o u hu j hj
       · exact bF WM.o (kv.o u hu j hj)
      have Cn:=ae CW;clear CW;cases hs:au ⟨#[44]⟩ (ts.drop p5)
      · rw [hs,if_neg (by decide)]at h2
        have HN:=ae (show rZ vs.length name (ns++ms) (ks++[(a:Int)]) (ts.drop p5)=some res from h2);rw[hs,if_neg (by decide)]at rf;clear h2 hs;go_wp2_with (go_at_call 144;((with_reducible refine rf.o.mono ?_);rintro e w7 ⟨h1,rfl,h3⟩;have bM:=ae (dM.o.trans h1);have qY:=ae (qX.o.fr h1 hbl (by decide));have bB:=ae h3;clear h1 h3))
        go_roundw
        case rel =>
         refine⟨qz,false,g,ns++ms,ks++[(a:Int)],p5,nP,us++dz,rfl,rfl,by omega,by rw[ak,ak,fK];omega,by rw[ak,ak];omega,ae (.inr ⟨rfl,HN.o⟩),ae (by rw[iy,HU.o,ky.o]),Cn, ?_,qY, ?_,bM⟩
         · rw[← bG];exact En
         · rw[← bG];exact bB
        case measure =>
         have h1:=bB.o.vR ts.length;rw[Eu.o,h1];omega
      · rw [hs,if_pos rfl,List.tail_drop]at h2
        have HN:=ae h2;have Qh:=Aj dE.o hs;rw[hs,if_pos rfl]at rf;clear h2 hs;go_wp2_with (go_at_call 144;((with_reducible refine rf.o.mono ?_);rintro e w7 ⟨h1,rfl,h3⟩;have bM:=ae (dM.o.trans h1);have qY:=ae (qX.o.fr h1 hbl (by decide));have bB:=ae h3;clear h1 h3))
        go_roundw
        case rel =>
         refine⟨qz,true,g,ns++ms,ks++[(a:Int)],p5+1,nP,us++dz,rfl,rfl,by omega,by rw[ak,ak,fK];omega,by rw[ak,ak];omega,ae (.inl ⟨rfl,HN.o⟩),ae (by rw[iy,HU.o,ky.o]),Cn, ?_,qY, ?_,bM⟩
         · rw[← bG];exact En
         · rw[← bG];exact bB
        case measure =>
         have h1:=bB.o.vR ts.length;rw[Eu.o,h1];omega
def Hl (f deep base:Nat)(name:ByteArray)(ts:List ag):Option dR :=
 if name=⟨#[84,82,85,69]⟩then some (.ok ([{ Nd.zero with kind:=3,num:=1 }],base,ts))
 else if name=⟨#[70,65,76,83,69]⟩then some (.ok ([{ Nd.zero with kind:=3 }],base,ts))
 else if au ⟨#[40]⟩ ts=true then Ba f deep base name ts else some (.error 5)
theorem yP (name c:ByteArray):(name.toList == c.toList)=decide (name=c):=by
 by_cases h:name=c
 · rw[h,decide_eq_true rfl];simp
 · rw[decide_eq_false h];exact beq_eq_false_iff_ne.2 (pR _ _ h)
theorem F5:(⟨#[84,82,85,69]⟩:ByteArray).toList=[84,82,85,69]:=by rw[qB]
theorem F4:(⟨#[70,65,76,83,69]⟩:ByteArray).toList=[70,65,76,83,69]:=by rw[qB]
theorem adY (f:Nat)(IH:∀g,g≤f→xw g)(name:ByteArray){w:World}{b:Nat}{tv:Value}{ts:List ag}{p deep:Nat}{nv:Value}{vs:List az}(h:bN w b tv ts p deep nv vs)(hnx:p+1<ts.length)(res:dR)(aj:Hl f deep vs.length name (ts.drop (p+1))=some res) :
 Calls Tryz.prog 122 #[.pointer (some ⟨b,0,none⟩),.string name] w (Out res w b tv ts deep vs):=by
 unfold Hl at aj;have q1:=yP name ⟨#[84,82,85,69]⟩;have q2:=yP name ⟨#[70,65,76,83,69]⟩;rw[F5]at q1;rw[F4]at q2;by_cases h1:name=⟨#[84,82,85,69]⟩
 · rw[decide_eq_true h1]at q1
   rw[if_pos h1]at aj;injection aj with aj;have HR:=ae aj.symm;have HA:=ae (show Calls Tryz.prog 120 #[.pointer (some ⟨b,0,none⟩),.agg #[.int .i64 3,.int .i64 1,.string ⟨#[]⟩,.string ⟨#[]⟩,.int .i64 0,.int .i64 0,.bool false,.bool false,.string ⟨#[]⟩,.int .i64 0,.int .i64 0,.bool false,.bool false,.slice none 0 0]] w _ from Bq h hnx { Nd.zero with kind:=3,num:=1 } rfl);clear aj h h1 q2;go_enter Tryz.func122,Tryz.ntmps122;go_wp2_with (go_at_call 120;((with_reducible refine HA.o.mono ?_);rintro e w7 ⟨h1,rfl,aT,h3⟩;have bM:=ae h1;have bB:=ae h3;clear h1 h3))
   go_ret;exact Out.leaf HR.o bM.o rfl bB.o
 rw[decide_eq_false h1]at q1;rw[if_neg h1]at aj;by_cases h2:name=⟨#[70,65,76,83,69]⟩
 · rw[decide_eq_true h2]at q2
   rw[if_pos h2]at aj;injection aj with aj;have HR:=ae aj.symm;have HA:=ae (show Calls Tryz.prog 120 #[.pointer (some ⟨b,0,none⟩),.agg #[.int .i64 3,.int .i64 0,.string ⟨#[]⟩,.string ⟨#[]⟩,.int .i64 0,.int .i64 0,.bool false,.bool false,.string ⟨#[]⟩,.int .i64 0,.int .i64 0,.bool false,.bool false,.slice none 0 0]] w _ from Bq h hnx { Nd.zero with kind:=3 } rfl);clear aj h h1 h2;go_enter Tryz.func122,Tryz.ntmps122;go_wp2_with (go_at_call 120;((with_reducible refine HA.o.mono ?_);rintro e w7 ⟨h1,rfl,aT,h3⟩;have bM:=ae h1;have bB:=ae h3;clear h1 h3))
   go_ret;exact Out.leaf HR.o bM.o rfl bB.o
 rw[decide_eq_false h2]at q2;rw[if_neg h2]at aj;obtain⟨c0,c1,c2,c3⟩:=h.facts;have f1:=h.frozen 1;have jZ:=h.few;have HP:=ae h;clear c0 c2 c3 h1 h2 h;have bD:=ae (HP.o.next hnx);have jT:=ae ((Fr.refl w b).setCell 1 (.int .i64 ((p:Int)+1)));cases hs:au ⟨#[40]⟩ (ts.drop (p+1))
 · rw[hs,if_neg (by decide)]at aj
   injection aj with aj;have HR:=ae aj.symm;have HS:=zQ bD.o ⟨#[40]⟩;rw[hs]at HS;have HS:=ae HS;clear aj hs;go_enter Tryz.func122,Tryz.ntmps122;go_upto_region 7 with (fail)
   generalize w.setCell ⟨b,1,none⟩ (.int .i64 ((p:Int)+1))=w1 at bD jT HS ⊢;go_wp2_with (go_at_call 116;((with_reducible refine HS.o.mono ?_);rintro e w2 ⟨rfl,h1⟩;have bI:=ae (jT.o.below h1);clear h1))
   go_ret;exact Out.err HR.o (.inl rfl) bI.o
 · rw [hs,if_pos rfl]at aj
   have tT:=ae aj;have Kb:=Aj bD.o hs;have HS:=zQ bD.o ⟨#[40]⟩;rw[hs]at HS;have HS:=ae HS;have qR:=ae IH;clear aj hs IH;go_enter Tryz.func122,Tryz.ntmps122;go_upto_region 7 with (fail)
   generalize w.setCell ⟨b,1,none⟩ (.int .i64 ((p:Int)+1))=w1 at bD jT HS ⊢
   go_wp2_with (first
    | (go_at_call 116;((with_reducible refine HS.o.mono ?_);rintro e w2 ⟨rfl,h1⟩;have bI:=ae (jT.o.below h1);have H6:=ae (XJ f qR.o name (bD.o.below h1) Kb res tT.o);clear h1))
    | (go_at_call 145;((with_reducible refine H6.o.mono ?_);intro e w3 ho;have nI:=ae ho;obtain⟨c,rfl⟩:=ho.ret;clear ho)))
   go_ret;obtain⟨hf,h2⟩:=nI.o;refine⟨bI.o.trans hf,h2.imp id ?_⟩;rintro⟨ms,a,r,g1,g2,p',aT,us,g3,g4,g5,g6⟩;exact⟨ms,a,r,g1,g2,p',aT,us,g3,g4,fun u hu j hj=>bF bI.o.size (g5 u hu j hj),g6⟩
theorem Out.from {res:dR}{w w2 w3:World}{b:Nat}{tv:Value}{ts:List ag}{deep:Nat}{vs:List az}{e:Ending}(hf:Fr w w2 b)(h:Out res w2 b tv ts deep vs e w3):Out res w b tv ts deep vs e w3:=by
 refine⟨hf.trans h.1,h.2.imp id ?_⟩;rintro⟨ms,a,r,g1,g2,p',aT,us,g3,g4,g5,g6⟩;exact⟨ms,a,r,g1,g2,p',aT,us,g3,g4,fun u hu j hj=>bF hf.size (g5 u hu j hj),g6⟩
theorem DU {s:ByteArray}{t:ag}{ts:List ag}(h:¬ t.kind=5):au s (t :: ts)=false:=by
 show(decide (t.kind=5)&&decide (t.text=s))=false;rw[decide_eq_false h];rfl
theorem adP (f:Nat)(IH:∀g,g≤f→xw g){w:World}{b:Nat}{tv:Value}{ts:List ag}{p deep:Nat}{nv:Value}{vs:List az}(h:bN w b tv ts p deep nv vs)(res:dR)(aj:iU (f+1) deep vs.length (ts.drop p)=some res) :
 Calls Tryz.prog 91 #[.pointer (some ⟨b,0,none⟩)] w (Out res w b tv ts deep vs):=by
 obtain⟨g,cap,t, -,ht,hd, -⟩:=h.tok;have aM:=ae (Gu h t ht);have HP:=ae h;have hbl:=h.blt;rw[hd,kZ]at aj;go_enter Tryz.func91,Tryz.ntmps91;go_upto_region 2 with (go_at_call 61;((with_reducible refine aM.o.mono ?_);rintro e w1 ⟨rfl,h1⟩;have HB:=ae h1;clear h1))
 have hB3:Below w1.heap.size w1 (w1.alloc (.cells #[.int .i64 t.kind,.string t.text,.int .i64 t.num,.string t.sh,.int .i64 t.c,.int .i64 t.r,.bool t.ac,.bool t.ar,.int .i64 t.pos] 71)):=(ai _ _).alloc (ah _) _;have aB:aC (w1.alloc (.cells #[.int .i64 t.kind,.string t.text,.int .i64 t.num,.string t.sh,.int .i64 t.c,.int .i64 t.r,.bool t.ac,.bool t.ar,.int .i64 t.pos] 71)) w1.heap.size t:=aC.new w1 t;have HB3:=ae (HB.o.trans (hB3.mono HB.o.size));clear hB3 HB;generalize hb4:w1.heap.size=b4 at aB ⊢;generalize w1.alloc (.cells #[.int .i64 t.kind,.string t.text,.int .i64 t.num,.string t.sh,.int .i64 t.c,.int .i64 t.r,.bool t.ac,.bool t.ar,.int .i64 t.pos] 71)=w3 at aB HB3 ⊢;clear hb4 aM;obtain⟨x0,x1,x2,x3,x4,x5,x6,x7,av⟩:=aB.cells;clear aB;have aW:=ae (HP.o.below HB3.o);have dD:=ae (Fr.of b HB3.o);obtain⟨kd,hkd⟩:∃kd,t.kind=kd:=⟨_,rfl⟩;by_cases k1:t.kind=1
 · have hnx:=h.fit.next ht (by omega)
   rw[DU (by omega),if_neg (by decide),if_pos k1]at aj;injection aj with aj;have HR:=ae aj.symm;have HA:=ae (show Calls Tryz.prog 120 #[.pointer (some ⟨b,0,none⟩),.agg #[.int .i64 1,.int .i64 t.num,.string ⟨#[]⟩,.string ⟨#[]⟩,.int .i64 0,.int .i64 0,.bool false,.bool false,.string ⟨#[]⟩,.int .i64 0,.int .i64 0,.bool false,.bool false,.slice none 0 0]] w3 _ from Bq aW.o hnx { Nd.zero with kind:=1,num:=t.num } rfl);have e1:(kd == 1)=true:=beq_iff_eq.2 (by omega);rw[hkd]at x0;clear aj hd ht k1 hkd h;go_wp2_with (go_at_call 120;((with_reducible refine HA.o.mono ?_);rintro e w7 ⟨h1,rfl,aT,h3⟩;have bM:=ae (dD.o.trans h1);have bB:=ae h3;clear h1 h3))
   go_ret;exact Out.leaf HR.o bM.o rfl bB.o
 have e1:(kd == 1)=false:=beq_eq_false_iff_ne.2 (by omega);by_cases k2:t.kind=2
 · have hnx:=h.fit.next ht (by omega)
   rw[DU (by omega),if_neg (by decide),if_neg k1,if_pos k2]at aj;injection aj with aj;have HR:=ae aj.symm;have HA:=ae (show Calls Tryz.prog 120 #[.pointer (some ⟨b,0,none⟩),.agg #[.int .i64 2,.int .i64 0,.string t.text,.string ⟨#[]⟩,.int .i64 0,.int .i64 0,.bool false,.bool false,.string ⟨#[]⟩,.int .i64 0,.int .i64 0,.bool false,.bool false,.slice none 0 0]] w3 _ from Bq aW.o hnx { Nd.zero with kind:=2,text:=t.text } rfl);have e2:(kd == 2)=true:=beq_iff_eq.2 (by omega);rw[hkd]at x0;clear aj hd ht k1 k2 hkd h;go_wp2_with (go_at_call 120;((with_reducible refine HA.o.mono ?_);rintro e w7 ⟨h1,rfl,aT,h3⟩;have bM:=ae (dD.o.trans h1);have bB:=ae h3;clear h1 h3))
   go_ret;exact Out.leaf HR.o bM.o rfl bB.o
 have e2:(kd == 2)=false:=beq_eq_false_iff_ne.2 (by omega);by_cases k6:t.kind=6
 · have hnx:=h.fit.next ht (by omega)
   rw[DU (by omega),if_neg (by decide),if_neg k1,if_neg k2,if_pos k6]at aj;injection aj with aj;have HR:=ae aj.symm;have HA:=ae (show Calls Tryz.prog 120 #[.pointer (some ⟨b,0,none⟩),.agg #[.int .i64 4,.int .i64 0,.string ⟨#[]⟩,.string ⟨#[]⟩,.int .i64 0,.int .i64 0,.bool false,.bool false,.string ⟨#[]⟩,.int .i64 0,.int .i64 0,.bool false,.bool false,.slice none 0 0]] w3 _ from Bq aW.o hnx { Nd.zero with kind:=4 } rfl);have e6:(kd == 6)=true:=beq_iff_eq.2 (by omega);rw[hkd]at x0;clear aj hd ht k1 k2 k6 hkd h;go_wp2_with (go_at_call 120;((with_reducible refine HA.o.mono ?_);rintro e w7 ⟨h1,rfl,aT,h3⟩;have bM:=ae (dD.o.trans h1);have bB:=ae h3;clear h1 h3))
   go_ret;exact Out.leaf HR.o bM.o rfl bB.o
 have e6:(kd == 6)=false:=beq_eq_false_iff_ne.2 (by omega);by_cases k4:t.kind=4
 · have hnx:=h.fit.next ht (by omega)
   rw[DU (by omega),if_neg (by decide),if_neg k1,if_neg k2,if_neg k6,if_pos k4]at aj;injection aj with aj;have HA:=ae (adH aW.o t hnx vs.length);rw[aj]at HA;have e4:(kd == 4)=true:=beq_iff_eq.2 (by omega);rw[hkd]at x0;clear aj hd ht k1 k2 k6 k4 hkd h;go_wp2_with (go_at_call 121;((with_reducible refine HA.o.mono ?_);intro e w7 ho;have nI:=ae (Out.from dD.o ho);obtain⟨c,rfl⟩:=ho.ret;clear ho))
   go_ret;exact nI.o
 have e4:(kd == 4)=false:=beq_eq_false_iff_ne.2 (by omega);by_cases k3:t.kind=3
 · have hnx:=h.fit.next ht (by omega)
   rw[DU (by omega),if_neg (by decide),if_neg k1,if_neg k2,if_neg k6,if_neg k4,if_pos k3]at aj;have HA:=ae (adY f IH t.text aW.o hnx res aj);have e3:(kd == 3)=true:=beq_iff_eq.2 (by omega);rw[hkd]at x0;clear aj hd ht k1 k2 k6 k4 k3 hkd h IH;go_wp2_with (go_at_call 122;((with_reducible refine HA.o.mono ?_);intro e w7 ho;have nI:=ae (Out.from dD.o ho);obtain⟨c,rfl⟩:=ho.ret;clear ho))
   go_ret;exact nI.o
 have e3:(kd == 3)=false:=beq_eq_false_iff_ne.2 (by omega)
 have hb:EZ f deep vs.length (ts.drop p)=some res:=by
  unfold EZ;rw[hd];by_cases c:au ⟨#[40]⟩ (t :: ts.drop (p+1))=true
  · rw[if_pos c]at aj ⊢;exact aj
  · rw[if_neg c,if_neg k1,if_neg k2,if_neg k6,if_neg k4,if_neg k3]at aj
    rw[if_neg c];exact aj
 have HA:=ae (aaE f (IH f (ah _)) aW.o res hb);rw[hkd]at x0;clear aj hd ht k1 k2 k6 k4 k3 hkd h IH hb;go_wp2_with (go_at_call 123;((with_reducible refine HA.o.mono ?_);intro e w7 ho;have nI:=ae (Out.from dD.o ho);obtain⟨c,rfl⟩:=ho.ret;clear ho))
 go_ret;exact nI.o
theorem ahn (f:Nat)(IH:∀g,g≤f→xw g){w:World}{b:Nat}{tv:Value}{ts:List ag}{p deep:Nat}{nv:Value}{vs:List az}(h:bN w b tv ts p deep nv vs)(res:dR)(aj:dX (f+1) 4 deep vs.length (ts.drop p)=some res) :
 Calls Tryz.prog 90 #[.pointer (some ⟨b,0,none⟩)] w (Out res w b tv ts deep vs):=by
 have HS:=ae (zQ h ⟨#[45]⟩);rw[kR,if_neg (by omega)]at aj;have HP:=ae h;cases hq:au ⟨#[45]⟩ (ts.drop p)
 · rw [hq,if_neg (by decide)]at aj
   rw[hq]at HS
   match f,IH,aj with
   | 0,_,aj=>unfold iU at aj;cases aj
   | f+1,IH,aj =>
   have HL:=ae (fun w1 (hb:Below w.heap.size w w1)=>KF b 5 (by omega) w1 (Out res w b tv ts deep vs) (fun e w' ho=>ho.ret) (fun w2 hb2=>by
    rw[lv5];exact(adP f (fun g hg=>IH g (by omega)) (HP.o.below (hb.trans (hb2.mono hb.size))) res aj).mono fun e w3 ho=>Out.from (Fr.of b (hb.trans (hb2.mono hb.size))) ho))
   clear hq aj h IH;go_enter Tryz.func90,Tryz.ntmps90
   go_wp2_with (first
    | (go_at_call 116;((with_reducible refine HS.o.mono ?_);rintro e w1 ⟨rfl,h1⟩;have xG:=ae (show Calls Tryz.prog 60 #[.pointer (some ⟨b,0,none⟩),.int .i64 5] w1 (Out res w b tv ts deep vs)from HL.o w1 h1);clear h1))
    | (go_at_call 60;((with_reducible refine xG.o.mono ?_);intro e w2 ho;have nI:=ae ho;obtain⟨c,rfl⟩:=ho.ret;clear ho)))
   go_ret;exact nI.o
 · have hnx := Aj h hq
   rw[hq,if_pos rfl]at aj;rw[hq]at HS;by_cases hd:12≤deep
   · rw [if_pos hd]at aj
     injection aj with aj;have HR:=ae aj.symm;clear hq aj h IH;go_enter Tryz.func90,Tryz.ntmps90
     go_wp2_with (first
      | (go_at_call 116;((with_reducible refine HS.o.mono ?_);rintro e w1 ⟨rfl,h1⟩;have jT:=ae (Fr.of b h1);have fB:=ae (yw (HP.o.below h1) hnx);clear h1))
      | (go_at_call 117;((with_reducible refine fB.o.mono ?_);rintro e w2 ⟨h1,⟨-,rfl⟩|⟨h2, -⟩⟩;rotate_left;exact absurd hd h2;have bI:=ae (jT.o.trans h1);clear h1)))
     go_ret;exact Out.err HR.o (.inr rfl) bI.o
   · rw [if_neg hd,List.tail_drop]at aj
     rcases dP aj with ⟨c,h1,rfl⟩|⟨ns,a,r,h1,h2⟩
     · have HI:=ae (fun w2 hps=>IH f (ah _) 4 (deep+1) _ w2 b tv ts (p+1) nv vs (by omega) hps h1)
       clear hq aj h IH h1;go_enter Tryz.func90,Tryz.ntmps90
       go_wp2_with (first
        | (go_at_call 116;((with_reducible refine HS.o.mono ?_);rintro e w1 ⟨rfl,h1⟩;have jT:=ae (Fr.of b h1);have fB:=ae (yw (HP.o.below h1) hnx);clear h1))
        | (go_at_call 117;((with_reducible refine fB.o.mono ?_);rintro e w2 ⟨h1,⟨h2, -⟩|⟨-,rfl,h3⟩⟩;exact absurd h2 hd;have bI:=ae (jT.o.trans h1);have HL:=ae (show Calls Tryz.prog 60 #[.pointer (some ⟨b,0,none⟩),.int .i64 4] w2 (Out (.error c) w2 b tv ts (deep+1) vs)from HI.o w2 h3);clear h1 h3))
        | (go_at_call 60;((with_reducible refine HL.o.mono ?_);intro e w5 ho;obtain⟨hf,hc,rfl⟩:=ho.bad rfl;have aR:=ae (bI.o.trans hf);have HC:=ae hc;have hc0:(c != 0)=true:=(by rw[bne_iff_ne];rcases hc with h|h <;> omega);clear hf hc ho)))
       go_ret;exact Out.err rfl HC.o aR.o
     · have HI:=ae (fun w2 hps=>IH f (ah _) 4 (deep+1) _ w2 b tv ts (p+1) nv vs (by omega) hps h1)
       have H1:=ae h1;injection h2 with h2;have HR:=ae h2.symm;have hcn:=h.cnt;have Z9:deep≤12:=by omega
       clear hq aj h IH h1 h2;go_enter Tryz.func90,Tryz.ntmps90
       go_upto_region 9 with (first
        | (go_at_call 116;((with_reducible refine HS.o.mono ?_);rintro e w1 ⟨rfl,h1⟩;have jT:=ae (Fr.of b h1);have fB:=ae (yw (HP.o.below h1) hnx);clear h1))
        | (go_at_call 117;((with_reducible refine fB.o.mono ?_);rintro e w2 ⟨h1,⟨h2, -⟩|⟨-,rfl,h3⟩⟩;exact absurd h2 hd;have bI:=ae (jT.o.trans h1);have HL:=ae (show Calls Tryz.prog 60 #[.pointer (some ⟨b,0,none⟩),.int .i64 4] w2 (Out (.ok (ns,a,r)) w2 b tv ts (deep+1) vs)from HI.o w2 h3);clear h1 h3))
        | (go_at_call 60;((with_reducible refine HL.o.mono ?_);intro e w5 ho;obtain⟨hf,rfl,p5,nP,dz,kU,kW,hk5,iD⟩:=ho.ry rfl;have aR:=ae (bI.o.trans hf);have aP:=ae iD;have HD5:=ae kU;have ky:=ae kW;have kv:=ae hk5;clear hf ho kU kW hk5 iD)))
       have hz:=bI.o.size;obtain⟨c0,c1,c2,c3⟩:=aP.o.facts;have f2:=aP.o.frozen 2;rw[show((deep+1:Nat):Int)=(deep:Int)+1 from rfl]at c2;clear c0 c1 c3;go_upto_region 10 with (fail)
       have dE:=ae (aP.o.pK deep Z9);have dM:=ae (aR.o.setCell 2 (.int .i64 (deep:Int)));have q9:=ae (show(w5.setCell ⟨b,2,none⟩ (.int .i64 (deep:Int))).heap.size=w5.heap.size by simp);obtain⟨hc1,hc2,hc3⟩:=xY H1.o HD5.o aP.o.lt;have aio:=aR.o.size;clear c2 f2 aP aR HL;generalize w5.setCell ⟨b,2,none⟩ (.int .i64 (deep:Int))=w6 at dE dM q9 ⊢;have FH:dz.length=ns.length:=by rw[← ky.o,fw]
       have Fv:(vs++dz).length=vs.length+dz.length:=ak;have V5:=ae (GM dE.o a (by omega));have hbl:=dE.o.blt;have JR:Below w6.heap.size w6 (w6.alloc (.cells #[.int .i64 (a:Int)] 3)):=(ai _ _).alloc (ah _) _;have bB:=ae (dE.o.below JR);have bM:=ae (dM.o.below JR);have HA:=ae (show Calls Tryz.prog 118 #[.pointer (some ⟨b,0,none⟩),.agg #[.int .i64 8,.int .i64 0,.string ⟨#[]⟩,.string ⟨#[]⟩,.int .i64 0,.int .i64 0,.bool false,.bool false,.string ⟨#[]⟩,.int .i64 0,.int .i64 0,.bool false,.bool false,.slice (some ⟨w6.heap.size,0,none⟩) 1 1]] (w6.alloc (.cells #[.int .i64 (a:Int)] 3)) _ from CO bB.o ⟨{ Nd.zero with kind:=8,kids:=[(a:Int)] },some (w6.heap.size,1)⟩ (Gp w6 (b+1) (a:Int) (by omega)) (by omega) (.slice (some ⟨w6.heap.size,0,none⟩) 1 1) rfl { Nd.zero with kind:=8,kids:=[(a:Int)] } rfl);clear JR
       go_wp2_with (first
        | (go_at_call 119;((with_reducible refine V5.o.mono ?_);rintro e wn ⟨rfl,rfl⟩))
        | (go_at_call 118;((with_reducible refine HA.o.mono ?_);rintro e w8 ⟨h1,rfl,yo,h3⟩;have l9:=ae (bM.o.trans h1);have lh:=ae h3;clear h1 h3)))
       go_ret;refine⟨l9.o,.inr ⟨_,_,_,HR.o,rfl,p5,yo,dz++[⟨{ Nd.zero with kind:=8,kids:=[(a:Int)] },some (w6.heap.size,1)⟩],HD5.o, ?_, ?_,by rw[← bG];exact lh.o⟩⟩
       · rw[iy,ky.o];rfl
       · intro u hu j hj
         rcases List.mem_append.1 hu with hu|hu
         · exact bF hz (kv.o u hu j hj)
         · rw[List.mem_singleton.1 hu]at hj
           have hj:some w6.heap.size=some j:=hj;injection hj with hj;have:=q9.o;omega
theorem Ph:∀F:Nat,xw F:=by
 intro F
 induction F using Nat.strongRecOn with
 | _ F ih =>
   intro n deep res w b tv ts p nv vs hn h aj
   match F,ih,aj with
   | 0,_,aj=>unfold dX at aj;cases aj
   | f+1,ih,aj =>
   have IH:∀g,g≤f→xw g:=fun g hg=>ih g (by omega)
   by_cases h3:n≤3
   · rw[kR,if_pos h3]at aj
     exact abK b w _ (fun e w' ho=>ho.ret) n h3 fun w' hb=>(ae4 f IH n h3 (h.below hb) res aj).mono fun e w'' ho=>Out.from (Fr.of b hb) ho
   · have e4:n=4:=by omega
     subst e4;refine KF b 4 (by omega) w _ (fun e w' ho=>ho.ret) fun w' hb => ?_
     rw[lv4];exact(ahn f IH (h.below hb) res aj).mono fun e w'' ho=>Out.from (Fr.of b hb) ho
end Go.Proofs.YtaobhjliflomaaaGreatDoor
