import Derived.Test.YtahjnhmidjeniaaGreatDoorDC5
import Derived.Lib.Builder
import Derived.Laws.Externs
set_option maxRecDepth 100000
set_option maxHeartbeats 64000000
namespace Go.Proofs.YtahjnhmidjeniaaGreatDoor
open Go.RowKit
variable {s:ByteArray}{i x:Int}{u:Iv}{ks ls:List Int}{us:List Iv}{l ms ns:List Nd}{r ts ts':List ai}{B2 a aM b base bytes d d' deep e gl k n qH size wb:Nat}{nd:Nd}{A:Option Addr}{P:Program}{α:Type}{sv:Value}{w w':World}{t:ai}
theorem Ng {t:Nat}{o:Oper}{a:Act}{K:Act→World→Prop}{Q:Exit→Act→World→Prop}(bS:Elem P t e size bytes)(E:Enc α size)
 (s x:Operand) (ho:o.op = .call { callee := .builtin .append,args:=#[s,x],argTypes:=#[t,t] }) (base:Nat) (v:Value) (xs:List α)
 (hs:a.eval s=v) (dK:Own E e w base v xs) (ad:Addr) (m c:Nat) (ys:List α) (hx:a.eval x = .slice (some ad) m c) (hl:ys.length=m)
 (hc:∀(j:Nat)(u:Value),(E.all ys)[j]? = some u→w.cell? (ad.add j)=some u) (hb:(xs.length+m)*bytes≤140737488355328) (hb2:xs.length+m≤maxLen) (dF:base≤w.heap.size)
 (h:∀(v':Value)(w':World),Own E e w' base v' (xs++ys)→w.grownBy w' v.ownBlock→(v'.ownBlock=v.ownBlock∨v'.ownBlock=some w.heap.size)→K (a.put o.dst v') w'):Oper.wp P o a w K Q:=by
 obtain⟨z,hi,hz⟩:=bS.inf;obtain⟨i,hi1,hi2,hi3,hi4⟩:=info_parts hi;obtain⟨v',w',iP,r1,r2,_,r4⟩:=run_append_own_at (P:=P) w base t o.type e i z size bytes bS.und hi1 hi2 hi3 hi4 hz bS.pos v xs.length (E.all xs) dK ad m c (E.all ys) (by rw[E.iZ,hl]) hc (E.tK ys) hb2 hb dF;unfold Oper.wp;simp[execOp,ho,resolve,invoke,builtin,hs,hx,iP,Result.andThen];refine h v' w' ?_ r2 r4;unfold Own;rw[E.all_append,ax,hl];exact r1
def wH(l:List aG)(s:aG):Option Nat:=l.findIdx? fun t=>decide (t.nm=s.nm∧t.r=s.r∧t.c=s.c)
theorem YJ {a b:aG}(h:a.nm=b.nm∧a.r=b.r∧a.c=b.c):a=b:=by
 obtain⟨n,r,c⟩:=a;obtain⟨n',r',c'⟩:=b;obtain⟨h1,h2,h3⟩:=h;dsimp only at h1 h2 h3;subst h1;subst h2;subst h3;rfl
theorem WB {l:List aG}{s:aG}(h:wH l s=some k):l[k]? = some s:=by
 unfold wH at h;rw[List.findIdx?_eq_some_iff_getElem]at h;obtain⟨h1,h2,_⟩:=h;rw[aX h1];exact congrArg some (YJ (of_decide_eq_true h2))
theorem WA {l:List aG}{s:aG}(h:wH l s=none):∀t∈l,t≠s:=by
 unfold wH at h;rw[List.findIdx?_eq_none_iff]at h;intro t ht e;have h1:=h t ht;subst e;simp at h1
def tT (l:List aG)(i:Nat)(st:List (List Int) × List Int)(s:aG):List (List Int) × List Int:=match wH l s with
 | some k=>(st.1.set k (st.1.getD k []++[(i:Int)]),st.2.set i (st.2.getD i 0+1))
 | none=>st
def mJ (l:List aG)(nd:aG→List aG)(i:Nat):List (List Int) × List Int:=(List.range i).foldl (fun st i=>match l[i]? with
 | some s=>(nd s).foldl (tT l i) st
 | none=>st) (List.replicate l.length [],List.replicate l.length 0)
theorem ZQ (l:List aG)(nd:aG→List aG)(i:Nat)(s:aG)(h:l[i]? = some s):mJ l nd (i+1)=(nd s).foldl (tT l i) (mJ l nd i):=by
 unfold mJ;rw[List.range_succ,List.foldl_append];simp only[List.foldl_cons,List.foldl_nil,h]
theorem fold_succ {β: Type}(f : β → α → β)(b : β)(xs:List α)(j:Nat)(x : α)(h:xs[j]? = some x):(xs.take (j+1)).foldl f b=f ((xs.take j).foldl f b) x:=by
 rw[List.take_add_one,h,List.foldl_append];rfl
def qy(l:List aG):List (aG × Value):=l.mapIdx fun i s=>(s,.int .i64 (i:Int))
theorem Ra (l:List aG)(i:Nat)(s:aG)(h:l[i]? = some s):qy (l.take (i+1))=qy (l.take i)++[(s,.int .i64 (i:Int))]:=by
 have hl:(l.take i).length=i:=by rw[iB];have:=(eH.1 h).1;omega
 unfold qy;rw[List.take_add_one,h,List.mapIdx_append];simp[hl]
theorem xP {l:List aG}{p:aG × Value}(h:p∈qy l):∃k:Nat,l[k]? = some p.1∧p.2 = .int .i64 (k:Int):=by
 unfold qy at h;obtain⟨k,hk,he⟩:=List.mem_mapIdx.1 h;exact⟨k,by rw[aX hk, ← he],by rw[← he]⟩
theorem QZ {l:List aG}{s:aG}(h:l[k]? = some s):(s,Value.int .i64 (k:Int))∈qy l:=by
 obtain⟨h1,h2⟩:=eH.1 h;unfold qy;exact List.mem_mapIdx.2 ⟨k,h1,by rw[h2]⟩
theorem AX {B:Nat}{cap:Nat}{l:List aG}(h:dE fH w B (.slice A n cap) l){i:Nat}{x:aG}(hi:l[i]? = some x) :
 ∃pb po,A=some ⟨pb,po,none⟩∧pb<B∧w.cell? ⟨pb,po+i*3,none⟩=some (.string x.nm)∧w.cell? ⟨pb,po+i*3+1,none⟩=some (.int .i64 (x.r:Int))∧w.cell? ⟨pb,po+i*3+2,none⟩=some (.int .i64 (x.c:Int)):=by
 obtain⟨pb,po,h1,h2,h3⟩:=h.at hi;exact⟨pb,po,h1,h2,h3 0 _ rfl,by have:=h3 1 _ rfl;rwa[← Nat.add_assoc]at this,by have:=h3 2 _ rfl;rwa[← Nat.add_assoc]at this⟩
theorem xJ(w:World)(s:aG):Below w.heap.size w (w.alloc (.cells #[.string s.nm,.int .i64 (s.r:Int),.int .i64 (s.c:Int)] 23)):=(ak _ _).alloc (aj _) _
theorem EW (w:World)(s:aG):(w.alloc (.cells #[.string s.nm,.int .i64 (s.r:Int),.int .i64 (s.c:Int)] 23)).cell? ⟨w.heap.size,0,none⟩=some (.string s.nm)∧(w.alloc (.cells #[.string s.nm,.int .i64 (s.r:Int),.int .i64 (s.c:Int)] 23)).cell? ⟨w.heap.size,1,none⟩=some (.int .i64 (s.r:Int))∧(w.alloc (.cells #[.string s.nm,.int .i64 (s.r:Int),.int .i64 (s.c:Int)] 23)).cell? ⟨w.heap.size,2,none⟩=some (.int .i64 (s.c:Int)):=by
 refine⟨?_, ?_, ?_⟩ <;> (rw[World.cell?_alloc_new];rfl)
theorem Elem.it:Elem Tryz.prog 49 3 1 8:=⟨Tryz.underlying49,⟨.int .i64 0,by kernel_rfl,rfl⟩,by decide⟩
theorem Lr (n:Nat):∀(i j:Nat)(u t:Iv),i≠j→(List.replicate n wD)[i]? = some u→(List.replicate n wD)[j]? = some t→∀g,u.v.ownBlock=some g→t.v.ownBlock≠some g:=by
 intro i j u t _ hi _ g hg;have:=bN hi;rw[List.eq_of_mem_replicate this]at hg;cases hg
theorem ZU (aS w:World)(n:Nat)(sv:Value)(hm:Below aS.heap.size aS w):dX aS (((w.alloc (.cells (madeCells #[.slice none 0 0] n) 49)).alloc (.cells (madeCells #[.int .i64 0] n) 3)).alloc (.cells #[sv,.slice (some ⟨w.heap.size,0,none⟩) n n,.slice (some ⟨w.heap.size+1,0,none⟩) n n] 61)) (w.heap.size+3) (w.heap.size+2) w.heap.size (w.heap.size+1) n sv (List.replicate n wD) (List.replicate n 0):=by
 have h1:=KA w n;have h2:=Kz (w.alloc (.cells (madeCells #[.slice none 0 0] n) 49)) n;have h3:=kF.new ((w.alloc (.cells (madeCells #[.slice none 0 0] n) 49)).alloc (.cells (madeCells #[.int .i64 0] n) 3)) sv (.slice (some ⟨w.heap.size,0,none⟩) n n) (.slice (some ⟨w.heap.size+1,0,none⟩) n n);simp only[iC]at h2 h3;have hs:=hm.size;refine⟨h3,h1.keep ?_,h2.keep ?_,fun u hu => ?_,Lr n,((hm.alloc hs _).alloc (by simp;omega) _).alloc (by simp;omega) _,⟨by omega,by omega,by omega,by omega,by omega,by omega,by omega,by omega,by omega⟩,by simp,List.length_replicate ..,List.length_replicate ..⟩
 · exact(Below.heap_alloc _ _ _ (by simp only[iC];omega)).trans (Below.heap_alloc _ _ _ (by simp))
 · exact Below.heap_alloc _ _ _ (by simp)
 · rw[List.eq_of_mem_replicate hu];exact Own.nil _ _ _ _
theorem ZT (aS w:World)(n:Nat)(sv:Value)(hm:Below aS.heap.size aS w):dX aS (((w.alloc (.cells (madeCells #[.int .i64 0] n) 3)).alloc (.cells (madeCells #[.slice none 0 0] n) 49)).alloc (.cells #[sv,.slice (some ⟨w.heap.size+1,0,none⟩) n n,.slice (some ⟨w.heap.size,0,none⟩) n n] 61)) (w.heap.size+3) (w.heap.size+2) (w.heap.size+1) w.heap.size n sv (List.replicate n wD) (List.replicate n 0):=by
 have h1:=Kz w n;have h2:=KA (w.alloc (.cells (madeCells #[.int .i64 0] n) 3)) n;have h3:=kF.new ((w.alloc (.cells (madeCells #[.int .i64 0] n) 3)).alloc (.cells (madeCells #[.slice none 0 0] n) 49)) sv (.slice (some ⟨w.heap.size+1,0,none⟩) n n) (.slice (some ⟨w.heap.size,0,none⟩) n n);simp only[iC]at h2 h3;have hs:=hm.size;refine⟨h3,h2.keep ?_,h1.keep ?_,fun u hu => ?_,Lr n,((hm.alloc hs _).alloc (by simp;omega) _).alloc (by simp;omega) _,⟨by omega,by omega,by omega,by omega,by omega,by omega,by omega,by omega,by omega⟩,by simp,List.length_replicate ..,List.length_replicate ..⟩
 · exact Below.heap_alloc _ _ _ (by simp)
 · exact(Below.heap_alloc _ _ _ (by simp only[iC];omega)).trans (Below.heap_alloc _ _ _ (by simp))
 · rw[List.eq_of_mem_replicate hu];exact Own.nil _ _ _ _
def rZ(us:List Iv)(ls:List Int)(T:Nat):Prop:=(∀u∈us,u.l.length≤T)∧∀x∈ls,0≤x∧x≤(T:Int)
theorem rZ.up {T T':Nat}(h:rZ us ls T)(ht:T≤T'):rZ us ls T' :=
 ⟨fun u hu=>eO (h.1 u hu) ht,fun x hx=>⟨(h.2 x hx).1,by have:=(h.2 x hx).2;omega⟩⟩
theorem rZ.step {T i:Nat}{c:Nat}{y:Int}(h:rZ us ls T)(hu:us[k]? = some u)(hx:ls[i]? = some x):rZ (us.set k ⟨A,c,u.l++[y]⟩) (ls.set i (x+1)) (T+1):=by
 refine⟨fun v hv => ?_,fun z hz => ?_⟩
 · rcases List.mem_or_eq_of_mem_set hv with hv|rfl
   · have:=h.1 v hv;omega
   · have:=h.1 u (bN hu)
     show(u.l++[y]).length≤_;rw[ax,gu];omega
 · rcases List.mem_or_eq_of_mem_set hz with hz|rfl
   · have:=h.2 z hz;omega
   · have:=h.2 x (bN hx);omega
theorem step_eq {i:Nat}{y:Int}{c:Nat}(hu:us[k]? = some u)(hx:ls[i]? = some x):((us.set k ⟨A,c,u.l++[y]⟩).map (·.l),ls.set i (x+1))=((us.map (·.l)).set k ((us.map (·.l)).getD k []++[y]),ls.set i (ls.getD i 0+1)):=by
 rw[List.map_set,iM,List.getElem?_map,hu,iM,hx];rfl
theorem dX.M3 {aS:World}(h:dX aS w B2 wb aM gl n sv us ls)(hu:us[k]? = some u):w.cell? ⟨aM,k,none⟩=some u.v:=by
 rw[cell_of_row w aM k _ _ _ h.usr,Cy];simp[hu]
theorem dX.Al {aS:World}(h:dX aS w B2 wb aM gl n sv us ls)(hx:ls[k]? = some x):w.cell? ⟨gl,k,none⟩=some (.int .i64 x):=by
 rw[cell_of_row w gl k _ _ _ h.wy,uF];simp[hx]
theorem dX.Kr{aS:World}(h:dX aS w B2 wb aM gl n sv us ls)(k:Nat):w.frozen? ⟨gl,k,none⟩=false:=frozen_of_row w gl k _ _ h.wy
theorem dX.Ej {aS:World}(h:dX aS w B2 wb aM gl n sv us ls)(hu:us[k]? = some u)(hg:w.grownBy w' u.v.ownBlock)(g:Nat)(hlt:g<B2):w'.heap[g]? = w.heap[g]? :=
 hg.block g (fM hlt h.size) fun e=>by have:=((h.each u (bN hu)).lies e.symm).1;omega
theorem dX.M8 {aS:World}(h:dX aS w B2 wb aM gl n sv us ls)(hu:us[k]? = some u)(hg:w.grownBy w' u.v.ownBlock):kF w' wb sv (.slice (some ⟨aM,0,none⟩) n n) (.slice (some ⟨gl,0,none⟩) n n) :=
 h.fK.keep (h.Ej hu hg wb h.low.2.2.2.1)
theorem dX.M4 {aS:World}(h:dX aS w B2 wb aM gl n sv us ls)(hu:us[k]? = some u)(hg:w.grownBy w' u.v.ownBlock):w'.cell? ⟨aM,k,none⟩=some u.v:=by
 have h1:ic vV 49 w' aM us:=h.usr.keep (h.Ej hu hg aM h.low.2.2.2.2.1);rw[cell_of_row w' aM k _ _ _ h1,Cy];simp[hu]
theorem dX.M5 {aS:World}(h:dX aS w B2 wb aM gl n sv us ls)(hu:us[k]? = some u)(hg:w.grownBy w' u.v.ownBlock)(j:Nat):w'.frozen? ⟨aM,j,none⟩=false :=
 frozen_of_row w' aM j _ _ (h.usr.keep (h.Ej hu hg aM h.low.2.2.2.2.1))
theorem XO (m:Int)(w:World):(Instr.makeMap 58 (some (.int .i64 m))).run Tryz.prog w = .ok (.map (some w.heap.size)) (w.alloc (.map #[] 0)):=by
 simp[Instr.makeMap,run_underlying Tryz.underlying58,go_sem]
def GM(w:World)(A:Option Addr)(n cap:Nat)(l:List aG)(nd:aG→List aG):Prop:=∀s∈l,∀w1,Below w.heap.size w w1→Calls Tryz.prog 24 #[.agg #[.slice A n cap],.agg #[.string s.nm,.int .i64 (s.r:Int),.int .i64 (s.c:Int)]] w1 fun e w'=>Below w1.heap.size w1 w'∧∃v,e = .returned v∧Own fH 23 w' w1.heap.size v (nd s)
structure GU (w w':World)(l:List aG)(nd:aG→List aG)(e:Ending):Prop where
 ex:∃(aS:World)(B2 wb aM gl:Nat)(A:Option Addr)(cap:Nat)(us:List Iv)(ls:List Int),e = .returned (.pointer (some ⟨wb,0,none⟩))∧Below w.heap.size w aS∧dX aS w' B2 wb aM gl l.length (.slice A l.length cap) us ls∧dE fH w' aS.heap.size (.slice A l.length cap) l∧(us.map (·.l),ls)=mJ l nd l.length
theorem ZR (w:World)(A:Option Addr)(n cap:Nat)(av:List aU)(f:ByteArray→Bool)(l:List aG)(nd:aG→List aG)(M:Nat)(h:fQ w w.heap.size (.slice A n cap) av)(hn:n≤10)(hsz:∀s∈av,s.rows.length≤100∧∀r∈s.rows,r.l.length≤100)(hF:Bl f w av)(hl:nX f av=l)
 (hd:∀(i j:Nat) s,l[i]? = some s→l[j]? = some s→i=j) (hs:∀s∈l,o7 s) (hns:∀s∈l,∀t∈nd s,o7 t) (hL:l.length≤100000) (hM:∀s∈l,(nd s).length≤M) (RY:M≤10000000) (hN:GM w A n cap l nd) :
 Calls Tryz.prog 15 #[.agg #[.slice A n cap]] w fun e w'=>Below w.heap.size w w'∧GU w w' l nd e:=by
 have HB:=ae (sN w (.slice A n cap));have HA:=ae (gy.new w (.slice A n cap));have HX:=ae (h.lift HB.o);have hmm:=XO;have HN:=ae hN;have HD:=ae hd;have HS:=ae hs;have qW:=ae hns;have HM:=ae hM;have xU:=RB (w.alloc (.cells #[.slice A n cap] 37)) A n cap av f HX.o hn hsz (fun s hs r hr x hx w1 h1=>hF s hs r hr x hx w1 (HB.o.trans (h1.mono HB.o.size)));rw[hl]at xU;have w9:=ae xU;obtain⟨L,qz⟩:∃L,l.length=L:=⟨_,rfl⟩;rw[qz]at hL;have oP:=ae qz;have hmk:=fun w=>XP L (by omega) w
 have hmu:=fun w=>XQ L (by omega) w
 clear h hsz hF hl hd hs hns hM hN xU qz;go_enter Tryz.func15,Tryz.ntmps15;go_upto_region 1 with (fail)
 obtain⟨w1,hw1⟩:∃w1,w.alloc (.cells #[.slice A n cap] 37)=w1:=⟨_,rfl⟩;rw[hw1]at HB HA w9 ⊢;clear hw1 HX;have b0:=HA.o.cell;go_upto_region 2 with (go_at_call 23;((with_reducible refine w9.o.mono ?_);rintro e w2 ⟨h1,v2,rfl,h2⟩;have H2:=ae h1;have gD:=ae h2;clear h1 h2 b0))
 obtain⟨As,cs,rfl⟩:=rU gD.o;rw[oP.o]at gD ⊢;have xw:=ae (show dE fH w2 w2.heap.size (.slice As L cs) l from gD.o.se);go_upto_region 4 with (fail)
 have zh:=ae (fZ.made w2);have HB3:=ae (show Below w2.heap.size w2 (w2.alloc (.map #[] 0))from(ak _ _).alloc (aj _) _);obtain⟨w3,hw3⟩:∃w3,w2.alloc (.map #[] 0)=w3:=⟨_,rfl⟩;obtain⟨mb,hmb⟩:∃mb,w2.heap.size=mb:=⟨_,rfl⟩;have NR:=ae hmb;rw[hw3]at zh HB3 ⊢;rw[hmb]at zh ⊢;clear hw3 hmb hmm w9
 go_loopw [21] (fun iv wr=>∃i:Nat,i≤L∧iv = .int .i64 (i:Int)∧Hid (fZ wr mb (qy (l.take i)))∧Hid (Below w2.heap.size w2 wr))
  (fun iv _=>L - (intOf iv).toNat)
 case atStart=>exact⟨0,bA _,rfl,ae (by rw[List.take_zero];exact zh.o),HB3⟩
 case round =>
  obtain⟨i,hi,rfl,HP,HR⟩:=hrel;by_cases hlt:i<L
  · have hii:(i:Int)<(L:Int):=by omega
    have hi0:(0:Int)≤(i:Int):=by omega
    obtain⟨s,hs⟩:∃s,l[i]? = some s:=⟨_,aX (by rw[oP.o];exact hlt)⟩;obtain⟨pb,po,rfl,hpb,e0,e1,e2⟩:=AX xw.o hs;have x0:=(HR.o.cell (p:=⟨pb,po+i*3,none⟩) hpb).trans e0;have x1:=(HR.o.cell (p:=⟨pb,po+i*3+1,none⟩) hpb).trans e1;have x2:=(HR.o.cell (p:=⟨pb,po+i*3+2,none⟩) hpb).trans e2;have hb5:=xJ wr s;obtain⟨y0,y1,y2⟩:=EW wr s
    obtain ⟨w6,iP,hsp,hsz,hg⟩:=(HP.o.below hb5 HP.o.lt).put (fun p hp=>by obtain⟨k,h1,_⟩:=xP hp;exact HS.o p.1 (List.mem_of_mem_take (bN h1))) s (HS.o s (bN hs)) (fun p hp e=>by
     obtain⟨k,h1,_⟩:=xP hp;rw[List.getElem?_take]at h1;split at h1
     · rename_i hk
       rw[e]at h1;have:=HD.o k i s h1 hs;omega
     · cases h1) (.int .i64 (i:Int))
    rw[← Ra l i s hs]at hsp;have kQ:=ae hsp;have qh:=HR.o.trans (hb5.mono HR.o.size);have oU:=ae (qh.grown hg qh.size (fun g e=>by injection e with e;rw[← e,NR.o];exact aj _));have aaQ:(Instr.mapUpdate 58 (.map (some mb)) (.agg #[.string s.nm,.int .i64 (s.r:Int),.int .i64 (s.c:Int)]) (.int .i64 (i:Int))).run Tryz.prog (wr.alloc (.cells #[.string s.nm,.int .i64 (s.r:Int),.int .i64 (s.c:Int)] 23)) = .ok () w6:=iP;clear hs e0 e1 e2 hpb iP hsp hsz hg qh hb5;go_wp2_with fail
    go_roundw
    case rel=>exact⟨i+1,by omega,by go_num,kQ,oU⟩
    case measure=>simp[intOf];omega
  · have hii : ¬ (i:Int)<(L:Int):=by omega
    have xn:=ae (show fZ wr mb (qy l)from by have h:=HP.o;rw[mM (by rw[oP.o];omega)]at h;exact h);have zn:=ae HR.o;clear HP HR zh HB3;go_upto_region 8 with (fail)
    go_cut [7] (fun pv wx=>∃(B2 wb aM gl:Nat)(jT:World),pv = .pointer (some ⟨wb,0,none⟩)∧jT=wx∧Hid (dX wr jT B2 wb aM gl L (.slice As L cs) (List.replicate L wD) (List.replicate L 0)))
    case first =>
     have HD0:=ae (Below.drew (ak wr.heap.size wr));go_region_held3 (fun _=>True) (trivial) (fail)
     all_goals go_wp2_with fail
     all_goals go_meet
     all_goals first
      | exact⟨_,_,_,_,_,rfl,rfl,ae (ZU wr _ L _ HD0.o)⟩
      | exact⟨_,_,_,_,_,rfl,rfl,ae (ZT wr _ L _ HD0.o)⟩
    case rest =>
     obtain⟨B2,wb,aM,gl,jT,rfl,rfl,HW0⟩:=hcut;obtain⟨aS,Tk⟩:∃aS,aS=wr:=⟨wr,rfl⟩;subst Tk;clear hmk hmu;go_upto_region 10 with (fail)
     go_loopw [41] (fun iv wx=>∃(i:Nat)(us:List Iv)(ls:List Int),i≤L∧iv = .int .i64 (i:Int)∧Hid (dX aS wx B2 wb aM gl L (.slice As L cs) us ls)∧Hid ((us.map (·.l),ls)=mJ l nd i)∧Hid (rZ us ls (i*M)))
      (fun iv _=>L - (intOf iv).toNat)
     case atStart=>exact⟨0,_,_,bA _,rfl,HW0,ae (by unfold mJ;rw[oP.o,List.map_replicate];rfl),ae ⟨fun u hu=>by rw[List.eq_of_mem_replicate hu];exact bA _,fun x hx=>by rw[List.eq_of_mem_replicate hx];omega⟩⟩
     case round =>
      clear HW0;obtain⟨i,us,ls,hi,rfl,HW,HE,qO⟩:=hrel;have xg:=ae (zn.o.trans (HW.o.rq.mono zn.o.size));have Bn:=ae (H2.o.trans (xg.o.mono H2.o.size));by_cases hlt:i<L
      · have hii:(i:Int)<(L:Int):=by omega
        have hi0:(0:Int)≤(i:Int):=by omega
        obtain⟨s,hs⟩:∃s,l[i]? = some s:=⟨_,aX (by rw[oP.o];exact hlt)⟩;obtain⟨pb,po,rfl,hpb,e0,e1,e2⟩:=AX xw.o hs;have x0:=(xg.o.cell (p:=⟨pb,po+i*3,none⟩) hpb).trans e0;have x1:=(xg.o.cell (p:=⟨pb,po+i*3+1,none⟩) hpb).trans e1;have x2:=(xg.o.cell (p:=⟨pb,po+i*3+2,none⟩) hpb).trans e2;have hms:=bN hs;have dS:=ae (ZQ l nd i s hs);have Jw:=HM.o s hms;have cz:=ae (xJ wr s);obtain⟨y0,y1,y2⟩:=EW wr s;have Gd:=ae (qW.o s hms);clear hs e0 e1 e2 hpb;go_upto_region 12 with (fail)
        clear x0 x1 x2;obtain⟨w5,JN⟩:∃w5,wr.alloc (.cells #[.string s.nm,.int .i64 (s.r:Int),.int .i64 (s.c:Int)] 23)=w5:=⟨_,rfl⟩;generalize hz:wr.heap.size=z at y0 y1 y2 ⊢;rw[JN]at cz y0 y1 y2 ⊢;clear JN hz;have yV:=ae (Bn.o.trans (cz.o.mono Bn.o.size));have b0:=(HA.o.over yV.o).cell;have BN:=ae (HN.o s hms w5 (HB.o.trans (yV.o.mono HB.o.size)));have Cq:=ae (HW.o.next cz.o);obtain⟨ns,hns⟩:∃ns,nd s=ns:=⟨_,rfl⟩;obtain⟨m,hm⟩:∃m,ns.length=m:=⟨_,rfl⟩;rw[hns]at BN dS Jw Gd;rw[hm]at Jw;have BJ:=ae hm;clear hms HW hns hm;go_wp2_with (go_at_call 24;((with_reducible refine BN.o.mono ?_);rintro e w6 ⟨h1,abp,rfl,h2⟩;obtain⟨An,cn,rfl⟩:=rU h2;have GA:=ae (Cq.o.next h1);have gY:=ae h2;clear h1 h2 b0 y0 y1 y2))
        rw[BJ.o]at gY ⊢;have HB2:=ae (show B2≤w5.heap.size from Cq.o.size);clear Cq BN
        go_loopw [50] (fun Ea wx=>∃(j:Nat)(us:List Iv)(ls:List Int),j≤m∧Ea = .int .i64 (j:Int)∧Hid (dX aS wx B2 wb aM gl L (.slice (some ⟨pb,po,none⟩) L cs) us ls)∧Hid ((us.map (·.l),ls)=(ns.take j).foldl (tT l i) (mJ l nd i))∧Hid (rZ us ls (i*M+j))∧Hid (Own fH 23 wx w5.heap.size (.slice An m cn) ns))
         (fun Ea _=>m - (intOf Ea).toNat)
        case atStart=>exact⟨0,us,ls,bA _,rfl,GA,ae (by rw[List.take_zero];exact HE.o),qO,gY⟩
        case round =>
         clear GA HE qO gY;obtain⟨j,us,ls,hj,rfl,HW,HE,qO,HO⟩:=hrel;by_cases hjt:j<m
         · have hji:(j:Int)<(m:Int):=by omega
           have hj0:(0:Int)≤(j:Int):=by omega
           obtain⟨t,ht⟩:∃t,ns[j]? = some t:=⟨_,aX (by rw[BJ.o];exact hjt)⟩;obtain⟨nu,ny,rfl,lN,x0,x1,x2⟩:=AX HO.o.se ht;have uo:=ae (fold_succ (tT l i) (mJ l nd i) ns j t ht);have hst:=Gd.o t (bN ht);have Br:=ae (xJ wr t);obtain⟨y0,y1,y2⟩:=EW wr t;clear ht lN;go_upto_region 15 with (fail)
           clear x0 x1 x2;obtain⟨w7,hw7⟩:∃w7,wr.alloc (.cells #[.string t.nm,.int .i64 (t.r:Int),.int .i64 (t.c:Int)] 23)=w7:=⟨_,rfl⟩;generalize hz:wr.heap.size=z7 at y0 y1 y2 ⊢;rw[hw7]at Br y0 y1 y2 ⊢;have xy:=ae (HW.o.next Br.o);have oQ:=ae (HO.o.below Br.o (aj _));clear hw7 hz HO HW;have fw:=xn.o.below xy.o.rq xn.o.lt;have hpz:∀p∈qy l,o7 p.1:=fun p hp=>by obtain⟨k,h1,_⟩:=xP hp;exact HS.o p.1 (bN h1)
           cases hps:wH l t with
           | none =>
             have hno:=WA hps;have iP:(Instr.lookup 58 (.map (some mb)) (.agg #[.string t.nm,.int .i64 (t.r:Int),.int .i64 (t.c:Int)]) true).run Tryz.prog w7 = .ok (.tuple #[.int .i64 0,.bool false]) w7:=fw.U7 hpz t hst (fun p hp e=>by obtain⟨k,h1,_⟩:=xP hp;exact hno p.1 (bN h1) e);have HST:=ae (show ∀st,tT l i st t=st from fun st=>by unfold tT;rw[hps]);clear hno hps fw hpz hst;go_wp2_with fail
             go_roundw
             case rel=>exact⟨j+1,us,ls,by omega,by go_num,xy,ae (by rw[uo.o,HST.o];exact HE.o),ae (qO.o.up (by omega)),oQ⟩
             case measure=>simp[intOf];omega
           | some k =>
             have hlk:=WB hps;have Sz:k<L:=by have h:=(eH.1 hlk).1;rw[oP.o]at h;exact h
             have iP:(Instr.lookup 58 (.map (some mb)) (.agg #[.string t.nm,.int .i64 (t.r:Int),.int .i64 (t.c:Int)]) true).run Tryz.prog w7 = .ok (.tuple #[.int .i64 (k:Int),.bool true]) w7:=fw.find hpz t hst (.int .i64 (k:Int)) (QZ hlk) (fun p hp e=>by
              obtain⟨k',h1,h2⟩:=xP hp;rw[e]at h1;rw[h2,HD.o k' k t h1 hlk])
             have HST:=ae (show ∀st,tT l i st t=(st.1.set k (st.1.getD k []++[(i:Int)]),st.2.set i (st.2.getD i 0+1))from fun st=>by unfold tT;rw[hps]);clear hps fw hpz hst hlk;have hki:(k:Int)<(L:Int):=by omega
             have hk0:(0:Int)≤(k:Int):=by omega
             obtain⟨u,hu⟩:∃u,us[k]? = some u:=⟨_,aX (by rw[xy.o.ul];exact Sz)⟩;obtain⟨x,hx⟩:∃x,ls[i]? = some x:=⟨_,aX (by rw[xy.o.wB];exact hlt)⟩;have HU:=ae hu;have vO:=ae hx;have hxb:=qO.o.2 x (bN hx);have hub:=qO.o.1 u (bN hu);have hiM:i*M≤100000*10000000:=Nat.mul_le_mul (by omega) RY;have zy:=ae (show u.l.length≤1000010000000 by omega);have hxw:IntKind.i64.wrap (x+1)=x+1:=by rw[IntKind.wrap_i64];omega
             clear hu hx hub hiM;go_upto_region 17 with (fail)
             clear iP y0 y1 y2;have kR:=ae (xy.o.next (Below.drew (ak w7.heap.size w7)));have uj:=ae (show Below w7.drew.heap.size w7.drew (w7.drew.alloc (.cells #[.int .i64 (i:Int)] 3))from(ak _ _).alloc (aj _) _);have lF:=ae (kR.o.next uj.o);have zl:=ae (lF.o.each u (bN HU.o));have c0:w7.drew.cell? ⟨aM,k,none⟩=some (.slice u.A u.l.length u.cap):=kR.o.M3 HU.o;have c1:(w7.drew.alloc (.cells #[.int .i64 (i:Int)] 3)).cell? ⟨aM,k,none⟩=some (.slice u.A u.l.length u.cap):=lF.o.M3 HU.o;have c2:(w7.alloc (.cells #[.int .i64 (i:Int)] 3)).cell? ⟨aM,k,none⟩=some (.slice u.A u.l.length u.cap):=c1;refine wp_region_held_drew (S:=fun W=>W.cell? ⟨wb,1,none⟩=some (.slice (some ⟨aM,0,none⟩) L L)) (by kernel_rfl) kR.o.fK.cells.2.1 (fun _ => ?_);show wpAnyH _ _ _ _ _ 17 #[false,false,false,false,false,false,false,false,false,false,false,false,false,false,false,false,false] _ _;refine hU 0 kR.o.fK.cells.2.1 ?_;refine hU 1 kR.o.fK.cells.2.1 ?_;refine hU 2 kR.o.fK.cells.2.1 ?_;refine hU 3 kR.o.fK.cells.2.1 ?_;refine hU 4 kR.o.fK.cells.2.1 ?_;refine hU 5 kR.o.fK.cells.2.1 ?_;refine hU 6 kR.o.fK.cells.2.1 ?_;refine hU 7 kR.o.fK.cells.2.1 ?_;refine hU 8 kR.o.fK.cells.2.1 ?_;refine hU 9 kR.o.fK.cells.2.1 ?_;refine hU 10 kR.o.fK.cells.2.1 ?_;refine hU 12 kR.o.fK.cells.2.1 ?_;refine hP 11 13 (fun K hK => ?_) (fun K hK => ?_)
             · go_simp
               refine hK.o _ _ kR.o.fK.cells.2.1 ?_;clear hK K;simp only[Act.put,sT,dn,dm];refine hO 13 (fun K hK => ?_);go_simp;refine hK.o _ _ lF.o.fK.cells.2.1 ?_;clear hK K;simp only[Act.put,sT,dn,dm];refine hO 14 (fun K hK => ?_);refine Ng Elem.it (bK .i64) (.tmp 72) (.tmp 74) rfl B2 (.slice u.A u.l.length u.cap) u.l ?_ zl.o ⟨w7.drew.heap.size,0,none⟩ 1 1 [(i:Int)] ?_ rfl ?_ ?_ ?_ ?_ ?_
               · go_simp
               · go_simp
               · exact iH _ _ _ rfl
               · have h:=zy.o;omega
               · have h:=zy.o;unfold maxLen;omega
               · exact lF.o.size
               intro v8 w8 h1 h2 h3;obtain⟨oL,c8,hv⟩:=rU h1;rw[ax,gu]at hv;subst hv;have rM:Iv.v ⟨oL,c8,u.l++[(i:Int)]⟩ = .slice oL (u.l.length+1) c8:=by unfold Iv.v;rw[ax,gu]
               have iV:=ae (lF.o.push k u ⟨oL,c8,u.l++[(i:Int)]⟩ HU.o (by rw[rM];exact h1) h2 (by rw[rM];exact h3));rw[rM]at iV;have hwb:=lF.o.M8 HU.o h2;have hfz:=lF.o.M5 HU.o h2 k;have huc:=lF.o.M4 HU.o h2;have xk:=ae (((oQ.o.drew).below uj.o (aj _)).keep fun g _ hl e=>h2.block g hl (((oQ.o.drew).below uj.o (aj _)).CB zl.o (by decide) e));clear h1 h2 h3 rM;refine hK.o _ _ hwb.cells.2.1 ?_;clear hK K;simp only[Act.put,sT,dn,dm];refine hU 15 hwb.cells.2.1 ?_;refine hO 16 (fun K hK => ?_);go_simp;refine hK.o undef _ iV.o.fK.cells.2.1 ?_;clear hK K hwb hfz huc;simp only[Act.put];refine wpAnyH_done (by kernel_rfl) ?_ _;have uu:=ae (xk.o.keep fun g hl _ _=>heap_setCell_other w8 ⟨aM,k,none⟩ g (.slice oL (u.l.length+1) c8) (by have h1:=iV.o.low;have h2:=HB2.o;show g≠aM;omega));obtain⟨rY,x8⟩:∃rY,w8.setCell ⟨aM,k,none⟩ (.slice oL (u.l.length+1) c8)=rY:=⟨_,rfl⟩;rw[x8]at iV uu ⊢;clear x8;have d2:=iV.o.fK.cells.2.2;have l0:=iV.o.Al vO.o;have l1:=iV.o.Kr i;have HQ:=ae (iV.o.inc i (x+1));have BV:=ae (uu.o.keep fun g hl _ _=>heap_setCell_other rY ⟨gl,i,none⟩ g (.int .i64 (x+1)) (by have h1:=iV.o.low;have h2:=HB2.o;show g≠gl;omega));go_wp2_with fail
               go_roundw
               case rel=>exact⟨j+1,_,_,by omega,by go_num,HQ,ae (by rw[uo.o,HST.o, ← HE.o];exact step_eq HU.o vO.o),ae (qO.o.step HU.o vO.o),BV⟩
               case measure=>simp[intOf];omega
             · go_simp
               refine hK.o _ _ lF.o.fK.cells.2.1 ?_;clear hK K;simp only[Act.put,sT,dn,dm];refine hO 11 (fun K hK => ?_);go_simp;refine hK.o _ _ lF.o.fK.cells.2.1 ?_;clear hK K;simp only[Act.put,sT,dn,dm];refine hO 14 (fun K hK => ?_);refine Ng Elem.it (bK .i64) (.tmp 72) (.tmp 74) rfl B2 (.slice u.A u.l.length u.cap) u.l ?_ zl.o ⟨w7.drew.heap.size,0,none⟩ 1 1 [(i:Int)] ?_ rfl ?_ ?_ ?_ ?_ ?_
               · go_simp
               · go_simp
               · exact iH _ _ _ rfl
               · have h:=zy.o;omega
               · have h:=zy.o;unfold maxLen;omega
               · exact lF.o.size
               intro v8 w8 h1 h2 h3;obtain⟨oL,c8,hv⟩:=rU h1;rw[ax,gu]at hv;subst hv;have rM:Iv.v ⟨oL,c8,u.l++[(i:Int)]⟩ = .slice oL (u.l.length+1) c8:=by unfold Iv.v;rw[ax,gu]
               have iV:=ae (lF.o.push k u ⟨oL,c8,u.l++[(i:Int)]⟩ HU.o (by rw[rM];exact h1) h2 (by rw[rM];exact h3));rw[rM]at iV;have hwb:=lF.o.M8 HU.o h2;have hfz:=lF.o.M5 HU.o h2 k;have huc:=lF.o.M4 HU.o h2;have xk:=ae (((oQ.o.drew).below uj.o (aj _)).keep fun g _ hl e=>h2.block g hl (((oQ.o.drew).below uj.o (aj _)).CB zl.o (by decide) e));clear h1 h2 h3 rM;refine hK.o _ _ hwb.cells.2.1 ?_;clear hK K;simp only[Act.put,sT,dn,dm];refine hU 15 hwb.cells.2.1 ?_;refine hO 16 (fun K hK => ?_);go_simp;refine hK.o undef _ iV.o.fK.cells.2.1 ?_;clear hK K hwb hfz huc;simp only[Act.put];refine wpAnyH_done (by kernel_rfl) ?_ _;have uu:=ae (xk.o.keep fun g hl _ _=>heap_setCell_other w8 ⟨aM,k,none⟩ g (.slice oL (u.l.length+1) c8) (by have h1:=iV.o.low;have h2:=HB2.o;show g≠aM;omega));obtain⟨rY,x8⟩:∃rY,w8.setCell ⟨aM,k,none⟩ (.slice oL (u.l.length+1) c8)=rY:=⟨_,rfl⟩;rw[x8]at iV uu ⊢;clear x8;have d2:=iV.o.fK.cells.2.2;have l0:=iV.o.Al vO.o;have l1:=iV.o.Kr i;have HQ:=ae (iV.o.inc i (x+1));have BV:=ae (uu.o.keep fun g hl _ _=>heap_setCell_other rY ⟨gl,i,none⟩ g (.int .i64 (x+1)) (by have h1:=iV.o.low;have h2:=HB2.o;show g≠gl;omega));go_wp2_with fail
               go_roundw
               case rel=>exact⟨j+1,_,_,by omega,by go_num,HQ,ae (by rw[uo.o,HST.o, ← HE.o];exact step_eq HU.o vO.o),ae (qO.o.step HU.o vO.o),BV⟩
               case measure=>simp[intOf];omega
         · have hji:¬ (j:Int)<(m:Int):=by omega
           go_wp2_with fail
           go_roundw
           case rel=>exact⟨i+1,us,ls,by omega,by go_num,HW,ae (by rw[dS.o];have h:=HE.o;rw[mM (by rw[BJ.o];omega)]at h;exact h),ae (qO.o.up (by rw[Nat.add_mul,Nat.one_mul];omega))⟩
           case measure=>simp[intOf];omega
      · have hii:¬ (i:Int)<(L:Int):=by omega
        have Sw:i=L:=by omega
        subst Sw;go_wp2_with fail
        go_ret;have Nw:=HB.o.trans (Bn.o.mono HB.o.size);have Nv:=HB.o.trans ((H2.o.trans (zn.o.mono H2.o.size)).mono HB.o.size);refine⟨Nw,⟨aS,B2,wb,aM,gl,As,cs,us,ls,rfl,Nv, ?_, ?_, ?_⟩⟩
        · rw[oP.o];exact HW.o
        · rw[oP.o];exact(xw.o.below xg.o (aj _)).mono zn.o.size
        · rw[oP.o];exact HE.o
def vP(w:World)(b:Nat)(v:Value):Prop:=w.heap[b]? = some (.cells #[v] 69)
theorem vP.new(w:World)(v:Value):vP (w.alloc (.cells #[v] 69)) w.heap.size v:=(gV w _).1
theorem vP.cell{w:World}{b:Nat}{v:Value}(h:vP w b v):w.cell? ⟨b,0,none⟩=some v:=by rw[cell_of_row w b 0 _ _ _ h];rfl
theorem RD (aS w:World)(B2 wb aM gl n:Nat)(sv:Value)(us:List Iv)(ls:List Int)(h:dX aS w B2 wb aM gl n sv us ls)(hn:n≤1000000)(hne:∀x∈ls,x≠0) :
 Calls Tryz.prog 25 #[.pointer (some ⟨wb,0,none⟩)] w fun e w'=>Below w.heap.size w w'∧∃b,e = .returned (.pointer (some ⟨b,0,none⟩))∧vP w' b (.slice none 0 0):=by
 have HB:=ae (show Below w.heap.size w (w.alloc (.cells #[.slice none 0 0] 69))from(ak _ _).alloc (aj _) _);have vL:=ae (vP.new w (.slice none 0 0));have HW:=ae (h.next HB.o);have BO:=ae hne;clear h hne;go_enter Tryz.func25,Tryz.ntmps25;go_upto_region 2 with (fail)
 obtain⟨w1,hw1⟩:∃w1,w.alloc (.cells #[.slice none 0 0] 69)=w1:=⟨_,rfl⟩;generalize hz:w.heap.size=z at vL ⊢;rw[hw1]at HB vL HW ⊢;clear hw1 hz;obtain⟨d0,d1,d2⟩:=HW.o.fK.cells;go_upto_region 3 with (fail)
 go_loopw [13] (fun iv wr=>∃i:Nat,i≤n∧iv = .int .i64 (i:Int)∧w1=wr)
  (fun iv _=>n - (intOf iv).toNat)
 case atStart=>exact⟨0,bA _,rfl,rfl⟩
 case round =>
  obtain⟨i,hi,rfl,rfl⟩:=hrel;by_cases hlt:i<n
  · have hii:(i:Int)<(n:Int):=by omega
    have hi0:(0:Int)≤(i:Int):=by omega
    obtain⟨x,hx⟩:∃x,ls[i]? = some x:=⟨_,aX (by rw[HW.o.wB];exact hlt)⟩;have l0:=HW.o.Al hx;have hx0:=BO.o x (bN hx);have hxb:(x == 0)=false:=aB.2 hx0;clear hx;go_wp2_with fail
    go_roundw
    case rel=>exact⟨i+1,by omega,by go_num,(by first|rfl|trivial)⟩
    case measure=>simp[intOf];omega
  · have hii:¬ (i:Int)<(n:Int):=by omega
    go_wp2_with fail
    go_ret;exact⟨HB.o,_,rfl,vL.o⟩
theorem Uu (w:World):Calls Tryz.prog 26 #[.slice none 0 0] w fun e w'=>e = .returned (.int .i64 0)∧w=w':=by
 go_enter Tryz.func26,Tryz.ntmps26
 go_wp2
 go_ret;exact⟨rfl,rfl⟩
theorem ZH (aS w:World)(B2 wb aM gl n:Nat)(sv:Value)(us:List Iv)(ls:List Int)(h:dX aS w B2 wb aM gl n sv us ls)(hn:n≤1000000)(hne:∀x∈ls,x≠0) :
 Calls Tryz.prog 16 #[.pointer (some ⟨wb,0,none⟩)] w fun e w'=>Below w.heap.size w w'∧e = .returned (.slice none 0 0):=by
 have HF:=ae (RD aS w B2 wb aM gl n sv us ls h hn hne);clear h hne;go_enter Tryz.func16,Tryz.ntmps16;go_upto_region 3 with (go_at_call 25;((with_reducible refine HF.o.mono ?_);rintro e w1 ⟨h1,b,rfl,h2⟩;have HB:=ae h1;have HR:=ae h2;clear h1 h2))
 go_loopw [3] (fun ov wr=>ov = .slice none 0 0∧w1=wr) (fun _ _=>0)
 case atStart=>exact⟨rfl,rfl⟩
 case round =>
  obtain⟨rfl,rfl⟩:=hrel;have r0:=HR.o.cell;go_wp2_with (go_at_call 26;((with_reducible refine(Uu _).mono ?_);rintro e w2 ⟨rfl,rfl⟩))
  go_ret;exact⟨HB.o,rfl⟩
def qK(l:List aG)(ls:List Int)(k:Nat):List aG:=(List.range k).flatMap fun i=>if 0<ls.getD i 0 then l[i]?.toList else []
theorem YW (l:List aG)(ls:List Int)(i:Nat)(s:aG)(x:Int)(hs:l[i]? = some s)(hx:ls[i]? = some x):qK l ls (i+1)=qK l ls i++(if 0<x then [s]else []):=by
 unfold qK;rw[List.range_succ,List.flatMap_append,fD,List.flatMap_nil,bE,hs,iM,hx];rfl
theorem YV (l:List aG)(ls:List Int)(k:Nat):(qK l ls k).length≤k:=by
 induction k with
 | zero=>simp[qK]
 | succ k ih =>
   unfold qK at ih ⊢;rw[List.range_succ,List.flatMap_append,fD,List.flatMap_nil,bE,ax]
   have:(if 0<ls.getD k 0 then l[k]?.toList else []).length≤1:=by
    split
    · cases l[k]? <;> simp
    · simp
   omega
theorem YX (aS w:World)(B2 wb aM gl n:Nat)(A:Option Addr)(cap:Nat)(l:List aG)(us:List Iv)(ls:List Int)(h:dX aS w B2 wb aM gl n (.slice A n cap) us ls)(hs:dE fH w aS.heap.size (.slice A n cap) l)(hn:n≤1000000) :
 Calls Tryz.prog 17 #[.pointer (some ⟨wb,0,none⟩)] w fun e w'=>Below w.heap.size w w'∧∃v,e = .returned v∧Own fH 23 w' w.heap.size v (qK l ls n):=by
 have HW:=ae h;have HS:=ae hs;have HL:=ae hs.len.1;clear h hs;obtain⟨d0,d1,d2⟩:=HW.o.fK.cells;go_enter Tryz.func17,Tryz.ntmps17;go_upto_region 3 with (fail)
 clear d0 d1 d2
 go_loopw [3,11] (fun ov iv wr=>∃(i:Nat)(v:Value),i≤n∧v=ov∧iv = .int .i64 (i:Int)∧Hid (Own fH 23 wr w.heap.size v (qK l ls i))∧Hid (Below w.heap.size w wr))
  (fun _ iv _=>n - (intOf iv).toNat)
 case atStart=>exact⟨0,_,bA _,rfl,rfl,ae (Own.nil _ _ _ _),ae (ak _ _)⟩
 case round =>
  obtain⟨i,v,hi,rfl,rfl,HO,HR⟩:=hrel;have GG:=ae (HW.o.next HR.o);by_cases hlt:i<n
  · have hii:(i:Int)<(n:Int):=by omega
    have hi0:(0:Int)≤(i:Int):=by omega
    obtain⟨s,hs⟩:∃s,l[i]? = some s:=⟨_,aX (by rw[HL.o];exact hlt)⟩;obtain⟨x,hx⟩:∃x,ls[i]? = some x:=⟨_,aX (by rw[HW.o.wB];exact hlt)⟩;have l0:=GG.o.Al hx;obtain⟨d0,d1,d2⟩:=GG.o.fK.cells;obtain⟨pb,po,hA,hpb,e0,e1,e2⟩:=AX HS.o hs;have hpw:pb<w.heap.size:=fM hpb HW.o.rq.size;have x0:=(HR.o.cell (p:=⟨pb,po+i*3,none⟩) hpw).trans e0;have x1:=(HR.o.cell (p:=⟨pb,po+i*3+1,none⟩) hpw).trans e1;have x2:=(HR.o.cell (p:=⟨pb,po+i*3+2,none⟩) hpw).trans e2;have zu:=ae (YW l ls i s x hs hx);have Gt:=ae (YV l ls i);rw[hA]at d0;clear hs hx hpb e0 e1 e2 hpw hA;by_cases hxp:0<x
    · rw[ah hxp]at zu
      go_wp2_with (at_builtin;refine lW Elem.AY fH rfl (.tmp 18) (.tmp 26) rfl w.heap.size v _ rfl (HO.o.below (xJ wr s) (aj _)) ⟨_,0,none⟩ 1 1 [s] rfl rfl ?_ ?_ ?_ ?_ ?_;exact iH _ _ _ rfl;(have:=Gt.o;omega);(have:=Gt.o;unfold maxLen;omega);(have h2:=HR.o.size;rw[iC];omega);intro v5 w5 h1 h2;have iU:=ae h1;have cz:=ae (HR.o.trans (((xJ wr s).mono HR.o.size).trans h2));clear h1 h2)
      go_roundw
      case rel=>exact⟨i+1,_,by omega,rfl,by go_num,ae (by rw[zu.o];exact iU.o),cz⟩
      case measure=>simp[intOf];omega
    · rw[af hxp,bE]at zu
      go_wp2_with fail
      go_roundw
      case rel=>exact⟨i+1,_,by omega,rfl,by go_num,ae (by rw[zu.o];exact HO.o),HR⟩
      case measure=>simp[intOf];omega
  · have hii:¬ (i:Int)<(n:Int):=by omega
    have hin:i=n:=by omega
    subst hin;go_wp2_with fail
    go_ret;exact⟨HR.o,_,rfl,HO.o⟩
theorem V8 (w:World)(A:Option Addr)(n cap:Nat)(l:List aG)(nd:aG→List aG)
 (Ju:∀w1,Below w.heap.size w w1→Calls Tryz.prog 14 #[.agg #[.slice A n cap]] w1 fun e w'=>e = .returned (.bool true)∧Below w1.heap.size w1 w')
 (JP:∀w1,Below w.heap.size w w1→Calls Tryz.prog 15 #[.agg #[.slice A n cap]] w1 fun e w'=>Below w1.heap.size w1 w'∧GU w1 w' l nd e)
 (hL:l.length≤100000) (hne:∀x∈(mJ l nd l.length).2,x≠0) :
 Calls Tryz.prog 9 #[.agg #[.slice A n cap]] w fun e w'=>Below w.heap.size w w'∧∃v,e = .returned (.tuple #[.slice none 0 0,v])∧Own fH 23 w' w.heap.size v (qK l (mJ l nd l.length).2 l.length):=by
 have HB:=ae (sN w (.slice A n cap));have HA:=ae (gy.new w (.slice A n cap));have HM:=ae (Ju _ HB.o);have OB:=ae JP;have BO:=ae hne;clear Ju JP hne;go_enter Tryz.func9,Tryz.ntmps9;go_upto_region 1 with (fail)
 obtain⟨w1,hw1⟩:∃w1,w.alloc (.cells #[.slice A n cap] 37)=w1:=⟨_,rfl⟩;rw[hw1]at HB HA HM ⊢;clear hw1;have b0:=HA.o.cell
 go_upto_region 4 with (first
  | (go_at_call 14;((with_reducible refine HM.o.mono ?_);rintro e w2 ⟨rfl,h1⟩;have H2:=ae h1;have b2:=(HA.o.over h1).cell;clear h1 b0))
  | (go_at_call 15;((with_reducible refine(OB.o _ (HB.o.trans (H2.o.mono HB.o.size))).mono ?_);rintro e w3 ⟨h1,hr⟩;obtain⟨aS,B2,wb,aM,gl,As,cs,us,ls,rfl,hm,hw,hse,heq⟩:=hr.ex;have H3:=ae (H2.o.trans (h1.mono H2.o.size));have HW:=ae hw;have HS:=ae hse;have HE:=ae heq;clear h1 hm hw hse heq hr b2)))
 obtain⟨L,qz⟩:∃L,l.length=L:=⟨_,rfl⟩;have hls:ls=(mJ l nd l.length).2:=by rw[← HE.o]
 have hn0:∀x∈ls,x≠0:=by rw[hls];exact BO.o
 have HU:=ae (ZH aS w3 B2 wb aM gl l.length _ us ls HW.o (by omega) hn0);have NP:=ae hls;clear hls hn0
 go_wp2_with (first
  | (go_at_call 16;((with_reducible refine HU.o.mono ?_);rintro e w4 ⟨h1,rfl⟩;have H4:=ae h1;clear h1))
  | (go_at_call 17;((with_reducible refine(YX aS w4 B2 wb aM gl l.length As cs l us ls (HW.o.next H4.o) (HS.o.below H4.o HW.o.rq.size) (by omega)).mono ?_);rintro e w5 ⟨h1,v,rfl,h2⟩;have eP:=ae (H4.o.trans (h1.mono H4.o.size));have HO:=ae (h2.mono H4.o.size);clear h1 h2)))
 go_ret2
 have yV:=H3.o.trans (eP.o.mono H3.o.size);exact⟨HB.o.trans (yV.mono HB.o.size),_,rfl,by rw[← NP.o];exact HO.o.mono (by have h1:=HB.o.size;have h2:=H3.o.size;omega)⟩
def gN:List ByteArray:=[⟨#[61]⟩,⟨#[60,62]⟩,⟨#[60]⟩,⟨#[60,61]⟩,⟨#[62]⟩,⟨#[62,61]⟩,⟨#[38]⟩,⟨#[43]⟩,⟨#[45]⟩,⟨#[42]⟩,⟨#[47]⟩]
def rk(o:Nat):Nat:=if o<6 then 0 else if o<7 then 1 else if o<9 then 2 else 3
theorem LC (o:Nat):rk o≤3:=by
 unfold rk;by_cases h1:o<6
 · rw[ah h1];omega
 · rw [af h1]
   by_cases h2:o<7
   · rw[ah h2];omega
   · rw[af h2]
     by_cases h3:o<9
     · rw[ah h3];omega
     · rw[af h3];omega
theorem KW (t:ai)(ts:List ai)(o:Nat)(ho:o<11)(hk:t.kind=5)(ht:t.text=gN.getD o ⟨#[]⟩)(n:Nat)(hn:n≤3):dO n (t :: ts)=if rk o=n then 9+(o:Int)else 0:=by
 have hs:∀s:ByteArray,ay s (t :: ts)=decide (gN.getD o ⟨#[]⟩=s):=by
  intro s;unfold ay;simp only[hk,ht,decide_true,jW]
 unfold dO;simp only[hs];have key:∀n:Nat,n<4→∀o:Nat,o<11→(match (ni n).find? (fun p=>decide (gN.getD o ⟨#[]⟩=p.1))with|some p=>p.2|none=>0)=if rk o=n then 9+(o:Int)else 0:=by decide +kernel
 exact key n (by omega) o ho
def Stop(n:Nat)(ts:List ai):Prop:=∀m,n≤m→m≤3→dO m ts=0
def tF(p:Nat)(l:List Int):Option (List ai):=bU l.length p l
theorem UD(p:Nat):tF p []=some [ai.zero.goto p]:=by unfold tF bU;rfl
theorem UE (p:Nat)(x:Int)(l:List Int)(t:ai)(n:Nat)(hx:x≠32)(h:cK (x :: l)=some (t,n)):tF p (x :: l)=(tF (p+n) ((x :: l).drop n)).map (t.goto p :: ·):=by
 have hn:=nE _ _ _ h;unfold tF;rw[aN,nk,af hx,h];simp only;rw[Ap _ ((x :: l).drop n).length _ _ (by rw[jX];simp only[aN];omega) (aj _)]
theorem UC (p:Nat)(a b:List Int)(t:ai)(ha:∀x,a.head? = some x→x≠32)(h:cK (a++b)=some (t,a.length)):tF p (a++b)=(tF (p+a.length) b).map (t.goto p :: ·):=by
 cases a with
 | nil=>have:=(nE _ _ _ h).1;simp at this
 | cons x a =>
   rw[bM]at h ⊢;rw[UE p x (a++b) t _ (ha x rfl) h];congr 2;rw[← bM,List.drop_left]
theorem Zj (v:Nat)(hv:v≤9223372036854775807)(b:List Int)(hb:∀x,b.head? = some x→isNum x=false):cK (aW v++b)=some ({ ai.zero with kind:=1,num:=(v:Int) },(aW v).length):=by
 cases hd:aW v with
 | nil=>exact absurd hd (nT v)
 | cons x l =>
   have aV:=pV v;rw[hd]at aV;have hx:=aV x (by simp);rw[bM,nD,ah hx, ← bM];unfold kZ;rw[qb isNum (x :: l) b aV hb];have hval:bV (x :: l)=v:=by rw[← hd];exact Bg v
   rw[hval]
   have hno:¬ ((1<(x :: l).length∧(x :: l++b).head? = some 48)∨9223372036854775807<(v:Int)):=by
    rintro(⟨h1,h2⟩|h)
    · by_cases h10:v<10
      · rw[nU v h10]at hd
        injection hd with _ hl;rw[← hl]at h1;simp at h1
      · have:=QP (v+1) v (by omega) (by omega)
        rw[hd]at this;exact this h2
    · omega
   rw[af hno]
def wG(o:Nat):List Int:=[[61],[60,62],[60],[60,61],[62],[62,61],[38],[43],[45],[42],[47]].getD o []
def dD(s:ByteArray)(t:ai):Prop:=t.kind=5∧t.text=s
theorem dD.sign (h:dD s t)(u:ByteArray)(ts:List ai):ay u (t :: ts)=decide (s=u):=by
 unfold ay;simp only[h.1,h.2,decide_true,jW]
inductive lH:List ai→Nd→Prop
 | num (t:ai)(h:t.kind=1):lH [t] { Nd.zero with kind:=1,num:=t.num }
 | text (t:ai)(h:t.kind=2):lH [t] { Nd.zero with kind:=2,text:=t.text }
 | yes (t:ai)(h:t.kind=3)(g:t.text=⟨#[84,82,85,69]⟩):lH [t] { Nd.zero with kind:=3,num:=1 }
 | no (t:ai)(h:t.kind=3)(g:t.text=⟨#[70,65,76,83,69]⟩):lH [t] { Nd.zero with kind:=3 }
 | dead (t:ai)(h:t.kind=6):lH [t] { Nd.zero with kind:=4 }
 | ref (t:ai)(h:t.kind=4):lH [t] { Nd.zero with kind:=5,ref:=t.df }
 | range (t c u:ai)(h:t.kind=4)(hc:dD ⟨#[58]⟩ c)(g:u.kind=4)(hs:gU t.df u.df=true):lH [t,c,u] { Nd.zero with kind:=6,ref:=t.df,ag:=u.df }
def Wr (n rk d:Nat)(ts:List ai)(d':Nat)(ts':List ai):Prop :=
 (n≤rk∧ts'=ts∧d'=d)∨(rk<n∧d'=d+1∧∃l r,dD ⟨#[40]⟩ l∧dD ⟨#[41]⟩ r∧ts'=l :: (ts++[r]))
inductive Sh:Bool→Nat→List Nd→List Int→List ai→Nat→Nat→Prop
 | leaf (base:Nat)(ts:List ai)(nd:Nd)(h:lH ts nd):Sh false base [nd] [(base:Int)] ts 5 0
 | neg (base:Nat)(ns:List Nd)(a:Int)(ts:List ai)(rk d:Nat)(h:Sh false base ns [a] ts rk d)(m:ai)(hm:dD ⟨#[45]⟩ m)(d':Nat)(ts':List ai)(hw:Wr 4 rk d ts d' ts') :
    Sh false base (ns++[{ Nd.zero with kind:=8,kids:=[a] }]) [((base+ns.length:Nat):Int)] (m :: ts') 4 (d'+1)
 | op (base o:Nat)(ho:o<11)(ns ms:List Nd)(a b:Int)(ts us:List ai)(mI jP d1 d2:Nat)(h:Sh false base ns [a] ts mI d1)(g:Sh false (base+ns.length) ms [b] us jP d2)
    (s:ai) (hs:dD (gN.getD o ⟨#[]⟩) s) (e1 e2:Nat) (ts' je:List ai) (hw:Wr (rk o) mI d1 ts e1 ts') (gw:Wr (rk o+1) jP d2 us e2 je) :
    Sh false base (ns++(ms++[{ Nd.zero with kind:=9+(o:Int),kids:=[a,b] }])) [((base+(ns.length+ms.length):Nat):Int)] (ts'++s :: je) (rk o) (max e1 e2)
 | call (base:Nat)(ns:List Nd)(ks:List Int)(ts:List ai)(d:Nat)(h:Sh true base ns ks ts 0 d)(t l r:ai)(ht:t.kind=3)(h1:t.text≠⟨#[84,82,85,69]⟩)(h2:t.text≠⟨#[70,65,76,83,69]⟩)(hl:dD ⟨#[40]⟩ l)(hr:dD ⟨#[41]⟩ r) :
    Sh false base (ns++[{ Nd.zero with kind:=7,text:=t.text,kids:=ks }]) [((base+ns.length:Nat):Int)] (t :: l :: (ts++[r])) 5 (d+1)
 | none (base:Nat):Sh true base [] [] [] 0 0
 | one (base:Nat)(ns:List Nd)(a:Int)(ts:List ai)(rk d:Nat)(h:Sh false base ns [a] ts rk d):Sh true base ns [a] ts 0 d
 | and (base:Nat)(ns ms:List Nd)(ks:List Int)(b:Int)(ts us:List ai)(rk d1 d2:Nat)(h:Sh true base ns ks ts 0 d1)(hk:ks≠[])(c:ai)(hc:dD ⟨#[44]⟩ c)(g:Sh false (base+ns.length) ms [b] us rk d2) :
    Sh true base (ns++ms) (ks++[b]) (ts++c :: us) 0 (max d1 d2)
def At (n deep base:Nat)(ts:List ai)(ns:List Nd)(a:Nat)(r:List ai):Prop :=
 if n≤4 then ∃f,dw f n deep base ts=some (.ok (ns,a,r))else ∃f,gJ f deep base ts=some (.ok (ns,a,r))
def Goes (n deep base:Nat)(ts:List ai)(ns:List Nd)(a:Nat)(r:List ai):Prop :=
 ∃yw a1 r1,At (n+1) deep base ts yw a1 r1∧∀f y,fC f n deep base ns a r=some y→∃g,fC g n deep base yw a1 r1=some y
theorem XI (h:dO n r=0):fC 1 n deep base ns a r=some (.ok (ns,a,r)):=by
 rw[qG,ah h]
theorem Goes.at (hn:n≤3)(h:Goes n deep base ts ns a r)(hs:Stop n r):At n deep base ts ns a r:=by
 obtain⟨yw,a1,r1,h1,h2⟩:=h;obtain⟨g,hg⟩:=h2 1 _ (XI (hs n (aj _) hn));unfold At at h1 ⊢;rw[ah (by omega)]at h1 ⊢;obtain⟨f,hf⟩:=h1;refine⟨max f g+1, ?_⟩;rw[nV,ah hn,zU (Nat.le_max_left f g) hf];exact LG (Nat.le_max_right f g) hg
theorem At.goes(h:At (n+1) deep base ts ns a r):Goes n deep base ts ns a r:=⟨ns,a,r,h,fun f _ hy=>⟨f,hy⟩⟩
theorem At.four (h:At 5 deep base ts ns a r)(hm:ay ⟨#[45]⟩ ts=false):At 4 deep base ts ns a r:=by
 unfold At at h ⊢;rw[af (by omega)]at h;rw[ah (by omega)];obtain⟨f,hf⟩:=h;refine⟨f+1, ?_⟩;rw[nV,af (by omega),hm,af (by simp)];exact hf
theorem At.down (n:Nat):∀(k:Nat),n+k≤5→At (n+k) deep base ts ns a r→Stop n r→(n+k=5→ay ⟨#[45]⟩ ts=false)→At n deep base ts ns a r
 | 0,_,h,_,_=>h
 | k + 1,hk,h,hs,hm=>by
   have h1:At (n+k) deep base ts ns a r:=by
    by_cases c:n+(k+1)=5
    · rw[c]at h
      have:=h.four (hm c);rwa[show n+k=4 by omega]
    · exact Goes.at (by omega) (At.goes h) (fun m h1 h2=>hs m (by omega) h2)
   exact At.down n k (by omega) h1 hs (fun h=>by omega)
structure jf (base:Nat)(ns:List Nd)(a:Nat)(ts:List ai)(rk d:Nat):Prop where
 le:rk≤5
 close:∀rest,ay ⟨#[41]⟩ (ts++rest)=false
 minus:rk=5→∀rest,ay ⟨#[45]⟩ (ts++rest)=false
 high:∀deep rest,deep+d≤12→ay ⟨#[58]⟩ rest=false→4≤rk→At rk deep base (ts++rest) ns a rest
 low:∀deep rest,deep+d≤12→ay ⟨#[58]⟩ rest=false→rk≤3→Stop (rk+1) rest→Goes rk deep base (ts++rest) ns a rest
theorem Stop.more{m:Nat}(h:Stop n r)(hm:n≤m):Stop m r:=fun k h1 h2=>h k (by omega) h2
theorem jf.at {rk:Nat}(h:jf base ns a ts rk d)(n deep:Nat)(rest:List ai)(hn:n≤rk)(hd:deep+d≤12)(hc:ay ⟨#[58]⟩ rest=false)(hs:Stop n rest) :
 At n deep base (ts++rest) ns a rest:=by
 have hle:=h.le
 have h1:At rk deep base (ts++rest) ns a rest:=by
  by_cases c:4≤rk
  · exact h.high deep rest hd hc c
  · exact Goes.at (by omega) (h.low deep rest hd hc (by omega) (hs.more (by omega))) (hs.more hn)
 refine At.down n (rk - n) (by omega) ?_ hs (fun e=>h.minus (by omega) rest);rwa[show n+(rk - n)=rk by omega]
theorem EY (h:dD s t)(ts:List ai)(hs:(List.range 4).all (fun n=>(ni n).all fun p=>decide (s≠p.1))=true)(n:Nat):Stop n (t :: ts):=by
 intro m _ hm;unfold dO
 have hf:(ni m).find? (fun p=>ay p.1 (t :: ts))=none:=by
  rw[List.find?_eq_none];intro p hp;rw[h.sign p.1 ts];have:=List.all_eq_true.1 hs m (by simp;omega);have:=List.all_eq_true.1 this p hp
  simpa using this
 rw[hf]
theorem jf.brk {rk:Nat}(h:jf base ns a ts rk d){l r:ai}(hl:dD ⟨#[40]⟩ l)(hr:dD ⟨#[41]⟩ r):jf base ns a (l :: (ts++[r])) 5 (d+1):=by
 refine⟨aj _,fun rest => ?_,fun _ rest => ?_,fun deep rest hd hc _ => ?_,fun deep rest _ _ h=>by omega⟩
 · rw[bM,hl.sign];decide
 · rw[bM,hl.sign];decide
 · have h1:=h.at 0 (deep+1) (r :: rest) (by omega) (by omega) (by rw[hr.sign];decide) (EY hr rest (by decide) 0)
   unfold At at h1 ⊢;rw[ah (by omega)]at h1;rw[af (by omega)];obtain⟨f,hf⟩:=h1;refine⟨f+1, ?_⟩;rw[bM,kL,hl.sign,ah (by decide),af (by omega),bD,nI,hf];show(if ay ⟨#[41]⟩ (r :: rest)=true then _ else _)=_;rw[hr.sign,ah (by decide)];rfl
theorem jf.wr {rk:Nat}(h:jf base ns a ts rk d)(hw:Wr n rk d ts d' ts')(hn:n≤5):∃mH,n≤mH∧jf base ns a ts' mH d':=by
 rcases hw with ⟨h1,rfl,rfl⟩|⟨h1,rfl,l,r,hl,hr,rfl⟩
 · exact⟨rk,h1,h⟩
 · exact⟨5,hn,h.brk hl hr⟩
theorem jf.goes {rk:Nat}(h:jf base ns a ts rk d)(n deep:Nat)(rest:List ai)(hn:n≤rk)(SG:n≤3)(hd:deep+d≤12)(hc:ay ⟨#[58]⟩ rest=false)(hs:Stop (n+1) rest) :
 Goes n deep base (ts++rest) ns a rest:=by
 by_cases c:n=rk
 · subst c;exact h.low deep rest hd hc SG hs
 · exact(h.at (n+1) deep rest (by omega) hd hc hs).goes
theorem Pv (h:lH ts nd):jf base [nd] base ts 5 0:=by
 have key:(∀rest,ay ⟨#[41]⟩ (ts++rest)=false)∧(∀rest,ay ⟨#[45]⟩ (ts++rest)=false)∧∀deep rest,ay ⟨#[58]⟩ rest=false→gJ 1 deep base (ts++rest)=some (.ok ([nd],base,rest)):=by
  have hs:∀(t:ai)(s:ByteArray)(us:List ai),t.kind≠5→ay s (t :: us)=false:=by
   intro t s us ht;unfold ay;simp only[aK ht,Bool.false_and]
  cases h with
  | num t h =>
    refine⟨fun rest=>hs _ _ _ (by omega),fun rest=>hs _ _ _ (by omega),fun deep rest hc => ?_⟩;rw[nI,kL,hs _ _ _ (by omega),af (by simp),ah h]
  | text t h =>
    refine⟨fun rest=>hs _ _ _ (by omega),fun rest=>hs _ _ _ (by omega),fun deep rest hc => ?_⟩;rw[nI,kL,hs _ _ _ (by omega),af (by simp),af (by omega),ah h]
  | yes t h g =>
    refine⟨fun rest=>hs _ _ _ (by omega),fun rest=>hs _ _ _ (by omega),fun deep rest hc => ?_⟩;rw[nI,kL,hs _ _ _ (by omega),af (by simp),af (by omega),af (by omega),af (by omega),af (by omega),ah h,ah g]
  | no t h g =>
    refine⟨fun rest=>hs _ _ _ (by omega),fun rest=>hs _ _ _ (by omega),fun deep rest hc => ?_⟩;rw[nI,kL,hs _ _ _ (by omega),af (by simp),af (by omega),af (by omega),af (by omega),af (by omega),ah h,af (by rw[g];decide),ah g]
  | dead t h =>
    refine⟨fun rest=>hs _ _ _ (by omega),fun rest=>hs _ _ _ (by omega),fun deep rest hc => ?_⟩;rw[nI,kL,hs _ _ _ (by omega),af (by simp),af (by omega),af (by omega),ah h]
  | ref t h =>
    refine⟨fun rest=>hs _ _ _ (by omega),fun rest=>hs _ _ _ (by omega),fun deep rest hc => ?_⟩;rw[nI,kL,hs _ _ _ (by omega),af (by simp),af (by omega),af (by omega),af (by omega),ah h];unfold jb;rw[hc,af (by simp)]
  | range t c u h hc g hsp =>
    refine⟨fun rest=>hs _ _ _ (by omega),fun rest=>hs _ _ _ (by omega),fun deep rest _ => ?_⟩;show gJ 1 deep base (t :: c :: u :: rest)=_;rw[kL,hs _ _ _ (by omega),af (by simp),af (by omega),af (by omega),af (by omega),ah h];unfold jb;rw[hc.sign,ah (by decide)];show some (if u.kind=4∧gU t.df u.df=true then _ else _)=_;rw[ah ⟨g,hsp⟩]
 refine⟨aj _,key.1,fun _=>key.2.1,fun deep rest _ hc _ => ?_,fun deep rest _ _ h=>by omega⟩;unfold At;rw[af (by omega)];exact⟨1,key.2.2 deep rest hc⟩
theorem YQ(r:List ai):Stop 4 r:=fun m h1 h2=>by omega
theorem Pw {rk:Nat}(h:jf base ns a ts rk d){m:ai}(hm:dD ⟨#[45]⟩ m)(h4:4≤rk) :
 jf base (ns++[{ Nd.zero with kind:=8,kids:=[(a:Int)] }]) (base+ns.length) (m :: ts) 4 (d+1):=by
 refine⟨by omega,fun rest=>by rw[bM,hm.sign];decide,fun h=>by omega,fun deep rest hd hc _ => ?_,fun deep rest _ _ h=>by omega⟩;have h1:=h.at 4 (deep+1) rest h4 (by omega) hc (YQ _);unfold At at h1 ⊢;rw[ah (by omega)]at h1 ⊢;obtain⟨f,hf⟩:=h1;refine⟨f+1, ?_⟩;rw[bM,nV,af (by omega),hm.sign,ah (by decide),af (by omega),List.tail_cons,hf];rfl
theorem VU:∀o:Nat,o<11→gN.getD o ⟨#[]⟩≠⟨#[58]⟩:=by decide +kernel
theorem YR {o:Nat}(ho:o<11){s:ai}(hs:dD (gN.getD o ⟨#[]⟩) s)(ts:List ai):Stop (rk o+1) (s :: ts):=by
 intro m h1 h2;rw[KW s ts o ho hs.1 hs.2 m h2,af (by omega)]
theorem Py {o:Nat}(ho:o<11){us:List ai}{mI jP d1 d2:Nat}(h:jf base ns a ts mI d1)(g:jf (base+ns.length) ms b us jP d2){s:ai}(hs:dD (gN.getD o ⟨#[]⟩) s)
 (h1:rk o≤mI) (h2:rk o+1≤jP) :
 jf base (ns++(ms++[{ Nd.zero with kind:=9+(o:Int),kids:=[(a:Int),(b:Int)] }])) (base+(ns.length+ms.length)) (ts++s :: us) (rk o) (max d1 d2):=by
 have hr:=LC o;refine⟨by omega,fun rest=>by rw[bD];exact h.close _,fun e=>by omega,fun deep rest _ _ e=>by omega,fun deep rest hd hc _ hst => ?_⟩;obtain⟨yw,a1,r1,k1,k2⟩:=h.goes (rk o) deep (s :: (us++rest)) h1 hr (by omega) (by rw[hs.sign];exact aK (VU o ho)) (YR ho hs _);have k3:=g.at (rk o+1) deep rest h2 (by omega) hc hst;unfold At at k3;rw[ah (by omega)]at k3;obtain⟨f,hf⟩:=k3;refine⟨yw,a1,r1,by rw[bD];exact k1,fun f' y hy => ?_⟩;refine k2 (max f f'+1) y ?_;rw[qG,KW s _ o ho hs.1 hs.2 _ hr,ah rfl,af (by omega),List.tail_cons,zU (Nat.le_max_left f f') hf];exact LG (Nat.le_max_right f f') hy
def wV (base:Nat)(ns:List Nd)(ks:List Int)(ts:List ai)(d:Nat):Prop :=
 (ks=[]∧ns=[]∧ts=[]∧d=0)∨(ks≠[]∧(∀rest,ay ⟨#[41]⟩ (ts++rest)=false)∧∀deep rest,deep+d≤12→ay ⟨#[58]⟩ rest=false→Stop 0 rest →
   ∀f y,(if ay ⟨#[44]⟩ rest=true then dY f deep base ns ks rest.tail else some (.ok (ns,ks,rest)))=some y→∃g,dY g deep base [] [] (ts++rest)=some y)
theorem Px {rk:Nat}(h:jf base ns a ts rk d):wV base ns [(a:Int)] ts d:=by
 refine .inr ⟨by simp,h.close,fun deep rest hd hc hs f y hy => ?_⟩;have h1:=h.at 0 deep rest (by omega) hd hc hs;unfold At at h1;rw[ah (by omega)]at h1;obtain⟨g,hg⟩:=h1;refine⟨max f g+1, ?_⟩;rw[qm,fO,Nat.add_zero,zU (Nat.le_max_right f g) hg];show(if ay ⟨#[44]⟩ rest=true then dY (max f g) deep base ns [(a:Int)] rest.tail else some (.ok (ns,[(a:Int)],rest)))=some y;by_cases c:ay ⟨#[44]⟩ rest=true
 · rw[ah c]at hy ⊢;exact G9 (Nat.le_max_left f g) hy
 · rw[af c]at hy ⊢;exact hy
theorem Ps {us:List ai}{rk d1 d2:Nat}(h:wV base ns ks ts d1)(hk:ks≠[]){c:ai}(hc:dD ⟨#[44]⟩ c)(g:jf (base+ns.length) ms b us rk d2) :
 wV base (ns++ms) (ks++[(b:Int)]) (ts++c :: us) (max d1 d2):=by
 rcases h with ⟨h,_⟩|⟨_,h1,h2⟩
 · exact absurd h hk
 · refine .inr ⟨by simp,fun rest=>by rw[bD];exact h1 _,fun deep rest hd Dn hs f y hy => ?_⟩
   have k1:=g.at 0 deep rest (by omega) (by omega) Dn hs;unfold At at k1;rw[ah (by omega)]at k1;obtain⟨g',hg⟩:=k1
   obtain ⟨q,hq⟩:=h2 deep (c :: (us++rest)) (by omega) (by rw[hc.sign];decide) (EY hc _ (by decide) 0) (max f g'+1) y (by
    rw[hc.sign,ah (by decide),List.tail_cons,qm,zU (Nat.le_max_right f g') hg];show(if ay ⟨#[44]⟩ rest=true then dY (max f g') deep base (ns++ms) (ks++[(b:Int)]) rest.tail else some (.ok (ns++ms,ks++[(b:Int)],rest)))=some y;by_cases e:ay ⟨#[44]⟩ rest=true
    · rw[ah e]at hy ⊢;exact G9 (Nat.le_max_left f g') hy
    · rw[af e]at hy ⊢;exact hy)
   exact⟨q,by rw[bD];exact hq⟩
theorem Pt (h:wV base ns ks ts d){l r:ai}(ht:t.kind=3)(h1:t.text≠⟨#[84,82,85,69]⟩)(h2:t.text≠⟨#[70,65,76,83,69]⟩)(hl:dD ⟨#[40]⟩ l)(hr:dD ⟨#[41]⟩ r) :
 jf base (ns++[{ Nd.zero with kind:=7,text:=t.text,kids:=ks }]) (base+ns.length) (t :: l :: (ts++[r])) 5 (d+1):=by
 have hs:∀(s:ByteArray)(us:List ai),ay s (t :: us)=false:=by
  intro s us;unfold ay;simp only[ht];rfl
 refine⟨aj _,fun rest=>hs _ _,fun _ rest=>hs _ _,fun deep rest hd hc _ => ?_,fun deep rest _ _ h=>by omega⟩
 have key:∃f,(if ay ⟨#[41]⟩ (ts++r :: rest)=true then some (.ok ([],[],ts++r :: rest))else dY f (deep+1) base [] [] (ts++r :: rest))=some (.ok (ns,ks,r :: rest)):=by
  rcases h with ⟨rfl,rfl,rfl,_⟩|⟨_,g1,g2⟩
  · refine⟨0, ?_⟩
    rw[eY,hr.sign,ah (by decide)]
  · obtain⟨f,hf⟩:=g2 (deep+1) (r :: rest) (by omega) (by rw[hr.sign];decide) (EY hr rest (by decide) 0) 0 (.ok (ns,ks,r :: rest)) (by rw[hr.sign,af (by decide)])
    refine⟨f, ?_⟩;rw[g1,af (by simp)];exact hf
 obtain⟨f,hf⟩:=key;unfold At;rw[af (by omega)];refine⟨f+1, ?_⟩;rw[bM,bM,bD,nI,kL,hs,af (by simp),af (by omega),af (by omega),af (by omega),af (by omega),ah ht,af h1,af h2,hl.sign,ah (by decide),af (by omega),List.tail_cons,hf];show(if ay ⟨#[41]⟩ (r :: rest)=true then _ else _)=_;rw[hr.sign,ah (by decide)];rfl
theorem Yf {b:Bool}{rk:Nat}(h:Sh b base ns ks ts rk d) :
 (b=false→∃a:Nat,ks=[(a:Int)]∧jf base ns a ts rk d)∧(b=true→wV base ns ks ts d):=by
 induction h with
 | leaf base ts nd h=>exact⟨fun _=>⟨base,rfl,Pv h⟩,fun h=>by cases h⟩
 | neg base ns a ts rk d h m hm d' ts' hw ih =>
   refine⟨fun _ => ?_,fun h=>by cases h⟩;obtain⟨a',e,hb⟩:=ih.1 rfl;obtain rfl:a=(a':Int):=by simpa using e
   obtain⟨mH,h1,hb'⟩:=hb.wr hw (by omega);exact⟨_,rfl,Pw hb' hm h1⟩
 | op base o ho ns ms a b ts us mI jP d1 d2 h g s hs e1 e2 ts' je hw gw ih jL =>
   refine⟨fun _ => ?_,fun h=>by cases h⟩;have hr:=LC o;obtain⟨a',e,hb⟩:=ih.1 rfl;obtain rfl:a=(a':Int):=by simpa using e
   obtain⟨b',e',gb⟩:=jL.1 rfl;obtain rfl:b=(b':Int):=by simpa using e'
   obtain⟨r1,h1,hb'⟩:=hb.wr hw (by omega);obtain⟨r2,h2,RN⟩:=gb.wr gw (by omega);exact⟨_,rfl,Py ho hb' RN hs h1 h2⟩
 | call base ns ks ts d h t l r ht h1 h2 hl hr ih=>exact⟨fun _=>⟨_,rfl,Pt (ih.2 rfl) ht h1 h2 hl hr⟩,fun h=>by cases h⟩
 | none base=>exact⟨fun h=>(by cases h),fun _ => .inl ⟨rfl,rfl,rfl,rfl⟩⟩
 | one base ns a ts rk d h ih =>
   refine⟨fun h=>(by cases h),fun _ => ?_⟩;obtain⟨a',e,hb⟩:=ih.1 rfl;obtain rfl:a=(a':Int):=by simpa using e
   exact Px hb
 | and base ns ms ks b ts us rk d1 d2 h hk c hc g ih jL =>
   refine⟨fun h=>(by cases h),fun _ => ?_⟩;obtain⟨b',e,gb⟩:=jL.1 rfl;obtain rfl:b=(b':Int):=by simpa using e
   exact Ps (ih.2 rfl) hk hc gb
theorem Yk {a:Int}{rk:Nat}(h:Sh false 0 ns [a] ts rk d)(hd:d≤12)(e:ai)(he:e.kind=0):∃f,lh f (ts++[e])=some (.ok ns):=by
 obtain⟨a',_,hb⟩:=(Yf h).1 rfl;have hsg:∀s:ByteArray,ay s [e]=false:=by intro s;unfold ay;simp only[he];rfl
 have h1:=hb.at 0 0 [e] (by omega) (by omega) (hsg _) (by
  intro m _ _;unfold dO
  have hf:(ni m).find? (fun p=>ay p.1 [e])=none:=by
   rw[List.find?_eq_none];intro p _;rw[hsg];simp
  rw[hf])
 unfold At at h1;rw[ah (by omega)]at h1;obtain⟨f,hf⟩:=h1;refine⟨f, ?_⟩;unfold lh;rw[hf];show(if tu [e]=0 then _ else _)=_;rw[ah (show tu [e]=0 from he)]
theorem tQ (h:ay s ts=true):∃t,ts=t :: ts.tail∧dD s t:=by
 cases ts with
 | nil=>simp[ay]at h
 | cons t ts =>
   unfold ay at h;rw[bu,aA,aA]at h;exact⟨t,rfl,h⟩
theorem VQ (hn:n≤3)(h:dO n ts≠0):∃o t,o<11∧rk o=n∧ts=t :: ts.tail∧dD (gN.getD o ⟨#[]⟩) t∧dO n ts=9+(o:Int):=by
 obtain⟨p,h1,h2,h3⟩:=yx h;obtain⟨t,e,ht⟩:=tQ h2;have key:∀n:Nat,n<4→(ni n).all (fun p=>(List.range 11).any fun o=>decide (rk o=n)&&(decide (p.1=gN.getD o ⟨#[]⟩)&&decide (p.2=9+(o:Int))))=true:=by decide +kernel
 have:=List.all_eq_true.1 (key n (by omega)) p h1;rw[List.any_eq_true]at this;obtain⟨o,ho,hq⟩:=this;rw[bu,bu,aA,aA,aA]at hq;refine⟨o,t,by simpa using ho,hq.1,e, ?_,by rw[h3,hq.2.2]⟩;rw[← hq.2.1];exact ht
def Has (n deep base:Nat)(ns:List Nd)(a:Nat)(pre:List ai):Prop :=
 ∃ts rk d ts' d',Sh false base ns [(a:Int)] ts rk d∧Wr n rk d ts d' ts'∧ts'.Sublist pre∧deep+d'≤12
theorem Has.less {pre:List ai}(h:Has (n+1) deep base ns a pre):Has n deep base ns a pre:=by
 obtain⟨ts,rk,d,ts',d',h1,h2,h3,h4⟩:=h;rcases h2 with ⟨g1,rfl,rfl⟩|⟨g1,rfl,l,r,hl,hr,rfl⟩
 · exact⟨_,_,_,_,_,h1,.inl ⟨by omega,rfl,rfl⟩,h3,h4⟩
 · by_cases c:n≤rk
   · refine⟨_,_,_,_,_,h1,.inl ⟨c,rfl,rfl⟩, ?_,by omega⟩
     exact((List.sublist_append_left ts [r]).trans (List.sublist_cons_self l _)).trans h3
   · exact⟨_,_,_,_,_,h1,.inr ⟨by omega,rfl,l,r,hl,hr,rfl⟩,h3,h4⟩
def OP (deep base:Nat)(ns:List Nd)(ks:List Int)(pre:List ai):Prop :=
 (ks=[]∧ns=[])∨(ks≠[]∧∃ts d c,Sh true base ns ks ts 0 d∧dD ⟨#[44]⟩ c∧(ts++[c]).Sublist pre∧deep+d≤12)
theorem uJ {pre:List ai}(h:lH ts nd)(hp:ts.Sublist pre)(hd:deep≤12):Has 5 deep base [nd] base pre :=
 ⟨_,_,_,_,_,.leaf base ts nd h,.inl ⟨aj _,rfl,rfl⟩,hp,by omega⟩
theorem Jh : ∀ f : Nat, (∀ n deep base ts ns a r, dw f n deep base ts=some (.ok (ns,a,r))→n≤4→deep≤12→∃pre,ts=pre++r∧Has n deep base ns a pre) ∧
 (∀n deep base ns a ts ns' a' r mF,fC f n deep base ns a ts=some (.ok (ns',a',r))→n≤3→deep≤12→Has n deep base ns a mF→∃pre,ts=pre++r∧Has n deep base ns' a' (mF++pre)) ∧
 (∀deep base ts ns a r,gJ f deep base ts=some (.ok (ns,a,r))→deep≤12→∃pre,ts=pre++r∧Has 5 deep base ns a pre) ∧
 (∀ deep base ns ks ts ns' ks' r mF,dY f deep base ns ks ts=some (.ok (ns',ks',r))→deep≤12→OP deep base ns ks mF →
   ∃pre us d,ts=pre++r∧Sh true base ns' ks' us 0 d∧us.Sublist (mF++pre)∧deep+d≤12)
 | 0=>by
   refine⟨?_, ?_, ?_, ?_⟩
   · intro n deep base ts ns a r h;unfold dw at h;cases h
   · intro n deep base ns a ts ns' a' r mF h;unfold fC at h;cases h
   · intro deep base ts ns a r h;unfold gJ at h;cases h
   · intro deep base ns ks ts ns' ks' r mF h;unfold dY at h;cases h
 | f + 1 => by
   obtain⟨i1,i2,i3,i4⟩:=Jh f;refine⟨?_, ?_, ?_, ?_⟩
   · intro n deep base ts ns a r h hn hd
     rw[nV]at h;by_cases c:n≤3
     · rw [ah c]at h
       rcases bY h with ⟨e,_,h2⟩|⟨ms,b,s,h1,h2⟩
       · cases h2
       · obtain⟨p1,e1,k1⟩:=i1 _ _ _ _ _ _ _ h1 (by omega) hd
         obtain⟨p2,e2,k2⟩:=i2 _ _ _ _ _ _ _ _ _ p1 h2 c hd k1.less;exact⟨p1++p2,by rw[e1,e2,bD],k2⟩
     · rw [af c]at h
       have vZ:n=4:=by omega
       subst vZ;by_cases d:ay ⟨#[45]⟩ ts=true
       · rw [ah d]at h
         by_cases d2:12≤deep
         · rw[ah d2]at h;cases h
         · rw [af d2]at h
           obtain⟨t,et,ht⟩:=tQ d;rcases bY h with ⟨e,_,h2⟩|⟨ms,b,s,h1,h2⟩
           · cases h2
           · obtain⟨p1,e1,us,mH,d',je,e',g1,g2,g3,g4⟩:=i1 _ _ _ _ _ _ _ h1 (by omega) (by omega)
             injection h2 with h2;injection h2 with h2;injection h2 with h3 h4;injection h4 with h4 h5;subst h3;subst h4;subst h5;refine⟨t :: p1,by rw[et,e1];rfl,_,_,_,_,_,.neg base ms _ us mH d' g1 t ht e' je g2,.inl ⟨aj _,rfl,rfl⟩,g3.cons_cons t,by omega⟩
       · rw[af d]at h
         obtain⟨p,e,k⟩:=i3 _ _ _ _ _ _ h hd;exact⟨p,e,Has.less (n:=4) k⟩
   · intro n deep base ns a ts ns' a' r mF h hn hd hh
     rw[qG]at h;by_cases c:dO n ts=0
     · rw[ah c]at h
       injection h with h;injection h with h;injection h with h1 h2;injection h2 with h2 h3;subst h1;subst h2;subst h3;exact⟨[],rfl,by rw[bE];exact hh⟩
     · rw [af c]at h
       obtain⟨o,t,ho,nZ,et,ht,QX⟩:=VQ hn c;rcases bY h with ⟨e,_,h2⟩|⟨ms,b,s,h1,h2⟩
       · cases h2
       · obtain ⟨p1,e1,us,jP,d2,je,e2,g1,g2,g3,g4⟩:=i1 _ _ _ _ _ _ _ h1 (by omega) hd
         obtain⟨ls,mI,d1,ls',l2,k1,k2,k3,k4⟩:=hh;subst nZ
         have DJ:Has (rk o) deep base (ns++(ms++[{ Nd.zero with kind:=9+(o:Int),kids:=[(a:Int),(b:Int)] }])) (base+(ns.length+ms.length)) (mF++t :: p1) :=
          ⟨_,_,_,_,_,.op base o ho ns ms _ _ ls us mI jP d1 d2 k1 g1 t ht l2 e2 ls' je k2 g2,.inl ⟨aj _,rfl,rfl⟩,k3.append (g3.cons_cons t),by omega⟩
         rw[QX]at h2;obtain⟨p2,e3,k5⟩:=i2 _ _ _ _ _ _ _ _ _ _ h2 hn hd DJ;refine⟨t :: (p1++p2),by rw[et,e1,e3];simp, ?_⟩;have:mF++t :: (p1++p2)=mF++t :: p1++p2:=by simp
         rw[this];exact k5
   · intro deep base ts ns a r h hd
     cases ts with
     | nil=>rw[vg]at h;injection h with h;cases h
     | cons t ts =>
       rw[kL]at h;by_cases c1:ay ⟨#[40]⟩ (t :: ts)=true
       · rw [ah c1]at h
         obtain⟨t',et,ht⟩:=tQ c1;injection et with et _;subst et;by_cases d:12≤deep
         · rw[ah d]at h;cases h
         · rw [af d]at h
           rcases bY h with ⟨e,_,h2⟩|⟨ms,b,s,h1,h2⟩
           · cases h2
           · by_cases c2 : ay ⟨#[41]⟩ s = true
             · rw [ah c2]at h2
               injection h2 with h2;injection h2 with h2;injection h2 with h3 h4;injection h4 with h4 h5;subst h3;subst h4;subst h5;obtain⟨u,CZ,hu⟩:=tQ c2;obtain⟨p1,e1,us,mH,d',je,e',g1,g2,g3,g4⟩:=i1 _ _ _ _ _ _ _ h1 (by omega) (by omega);rcases g2 with ⟨_,rfl,rfl⟩|⟨g2,_⟩
               · refine ⟨t :: (p1 ++ [u]), by rw[e1];conv=>lhs;rw[CZ]
                                              simp, ?_⟩
                 by_cases c3:5≤mH
                 · refine⟨_,_,_,_,_,g1,.inl ⟨c3,rfl,rfl⟩, ?_,by omega⟩
                   exact(g3.trans (List.sublist_append_left _ _)).trans (List.sublist_cons_self _ _)
                 · exact⟨_,_,_,_,_,g1,.inr ⟨by omega,rfl,t,u,ht,hu,rfl⟩,(g3.append (List.Sublist.refl [u])).cons_cons t,by omega⟩
               · omega
             · rw[af c2]at h2;injection h2 with h2;cases h2
       · rw [af c1] at h
         by_cases c2:t.kind=1
         · rw[ah c2]at h
           injection h with h;injection h with h;injection h with h1 h2;injection h2 with h2 h3;subst h1;subst h2;subst h3;exact⟨[t],rfl,uJ (.num t c2) (List.Sublist.refl _) hd⟩
         · rw [af c2] at h
           by_cases c3:t.kind=2
           · rw[ah c3]at h
             injection h with h;injection h with h;injection h with h1 h2;injection h2 with h2 h3;subst h1;subst h2;subst h3;exact⟨[t],rfl,uJ (.text t c3) (List.Sublist.refl _) hd⟩
           · rw [af c3] at h
             by_cases c4:t.kind=6
             · rw[ah c4]at h
               injection h with h;injection h with h;injection h with h1 h2;injection h2 with h2 h3;subst h1;subst h2;subst h3;exact⟨[t],rfl,uJ (.dead t c4) (List.Sublist.refl _) hd⟩
             · rw [af c4] at h
               by_cases c5:t.kind=4
               · rw [ah c5]at h
                 injection h with h;unfold jb at h;by_cases c6:ay ⟨#[58]⟩ ts=true
                 · rw [ah c6]at h
                   obtain⟨q,eq,hq⟩:=tQ c6;cases hu:ts.tail with
                   | nil=>rw[hu]at h;cases h
                   | cons u us =>
                     rw[hu]at h;simp only at h;by_cases c7:u.kind=4∧gU t.df u.df=true
                     · rw[ah c7]at h
                       injection h with h;injection h with h1 h2;injection h2 with h2 h3;subst h1;subst h2;subst h3;refine⟨[t,q,u],by rw[eq,hu];rfl,uJ (.range t q u c5 hq c7.1 c7.2) (List.Sublist.refl _) hd⟩
                     · rw[af c7]at h;cases h
                 · rw[af c6]at h
                   injection h with h;injection h with h1 h2;injection h2 with h2 h3;subst h1;subst h2;subst h3;exact⟨[t],rfl,uJ (.ref t c5) (List.Sublist.refl _) hd⟩
               · rw [af c5] at h
                 by_cases c6:t.kind=3
                 · rw [ah c6] at h
                   by_cases c7:t.text=⟨#[84,82,85,69]⟩
                   · rw[ah c7]at h
                     injection h with h;injection h with h;injection h with h1 h2;injection h2 with h2 h3;subst h1;subst h2;subst h3;exact⟨[t],rfl,uJ (.yes t c6 c7) (List.Sublist.refl _) hd⟩
                   · rw [af c7] at h
                     by_cases c8:t.text=⟨#[70,65,76,83,69]⟩
                     · rw[ah c8]at h
                       injection h with h;injection h with h;injection h with h1 h2;injection h2 with h2 h3;subst h1;subst h2;subst h3;exact⟨[t],rfl,uJ (.no t c6 c8) (List.Sublist.refl _) hd⟩
                     · rw [af c8]at h
                       by_cases c9:ay ⟨#[40]⟩ ts=true
                       · rw [ah c9]at h
                         obtain⟨l,el,hl⟩:=tQ c9;by_cases d:12≤deep
                         · rw[ah d]at h;cases h
                         · rw [af d]at h
                           rcases bY h with ⟨e,_,h2⟩|⟨ms,ks,s,h1,h2⟩
                           · cases h2
                           · by_cases c10 : ay ⟨#[41]⟩ s = true
                             · rw [ah c10]at h2
                               injection h2 with h2;injection h2 with h2;injection h2 with h3 h4;injection h4 with h4 h5;subst h3;subst h4;subst h5;obtain⟨u,CZ,hu⟩:=tQ c10
                               have key:∃p us d,ts.tail=p++s∧Sh true base ms ks us 0 d∧us.Sublist p∧deep+1+d≤12:=by
                                by_cases c11:ay ⟨#[41]⟩ ts.tail=true
                                · rw[ah c11]at h1
                                  injection h1 with h1;injection h1 with h1;injection h1 with h3 h4;injection h4 with h4 h5;subst h3;subst h4;subst h5;exact⟨[],[],0,rfl,.none base,List.Sublist.refl _,by omega⟩
                                · rw[af c11]at h1
                                  obtain⟨p,us,d',g1,g2,g3,g4⟩:=i4 _ _ _ _ _ _ _ _ [] h1 (by omega) (.inl ⟨rfl,rfl⟩);exact⟨p,us,d',g1,g2,by simpa using g3,g4⟩
                               obtain⟨p,us,d',g1,g2,g3,g4⟩:=key
                               refine ⟨t :: l :: (p ++ [u]), by rw[el,g1];conv=>lhs;rw[CZ]
                                                                simp, ?_⟩
                               exact⟨_,_,_,_,_,.call base ms ks us d' g2 t l u c6 c7 c8 hl hu,.inl ⟨aj _,rfl,rfl⟩,((g3.append (List.Sublist.refl [u])).cons_cons l).cons_cons t,by omega⟩
                             · rw[af c10]at h2;injection h2 with h2;cases h2
                       · rw[af c9]at h;injection h with h;cases h
                 · rw[af c6]at h;injection h with h;cases h
   · intro deep base ns ks ts ns' ks' r mF h hd hh
     rw[qm]at h;rcases bY h with ⟨e,_,h2⟩|⟨ms,b,s,h1,h2⟩
     · cases h2
     · obtain ⟨p1, e1, us, mH, d', je, e', g1,g2,g3,g4⟩:=i1 _ _ _ _ _ _ _ h1 (by omega) hd
       rcases g2 with ⟨_,rfl,rfl⟩|⟨g2,_⟩
       · have key : ∃ ts d, Sh true base (ns ++ ms) (ks++[(b:Int)]) ts 0 d∧ts.Sublist (mF++p1)∧deep+d≤12:=by
          rcases hh with ⟨rfl,rfl⟩|⟨hk,ZL,d0,q,k1,k2,k3,k4⟩
          · exact⟨_,_,.one base ms _ _ _ _ (by simpa using g1),g3.trans (List.sublist_append_right _ _),g4⟩
          · refine⟨_,_,.and base ns ms ks _ ZL _ _ d0 _ k1 hk q k2 g1, ?_,by omega⟩
            have:=k3.append g3
            simpa using this
         obtain⟨MP,d1,j1,j2,J7⟩:=key;by_cases c:ay ⟨#[44]⟩ s=true
         · rw[ah c]at h2
           obtain⟨q,eq,hq⟩:=tQ c;obtain⟨p2,ZN,d2,m1,m2,m3,m4⟩:=i4 _ _ _ _ _ _ _ _ (mF++p1++[q]) h2 hd (.inr ⟨by simp,MP,d1,q,j1,hq,j2.append (List.Sublist.refl _),J7⟩)
           refine ⟨p1 ++ q :: p2, ZN, d2, by rw[e1];conv=>lhs;rw[eq,m1]
                                             simp,m2,by simpa using m3,m4⟩
         · rw[af c]at h2
           injection h2 with h2;injection h2 with h2;injection h2 with h3 h4;injection h4 with h4 h5;subst h3;subst h4;subst h5;exact⟨p1,MP,d1,e1,j1,j2,J7⟩
       · omega
def bQ (t:ai):List Int :=
 if t.kind=1 then aW t.num.toNat
 else if t.kind=2 then 34 :: (eZ (sb t.text)++[34])
 else if t.kind=4 then bC (sb t.sh) t.c t.r t.ac t.ar
 else if t.kind=6 then [35,82,69,70,33]
 else sb t.text
theorem E9(p:Int→Bool)(l:List Int):l.take (l.takeWhile p).length=l.takeWhile p:=(List.prefix_iff_eq_take.1 (List.takeWhile_prefix p)).symm
theorem AP:∀(n:Nat)(l t:List Int)(k:Nat),l.length≤n→bP l=some (t,k)→l.take k=eZ t++[34]
 | _,[],_,_,_,h=>by simp[bP]at h
 | 0,_ :: _,_,_,hn,_=>by simp at hn
 | n + 1, x :: l,t,k,hn,h=>by
   rw[oz]at h;by_cases h1:x<32
   · rw[ah h1]at h;cases h
   · rw [af h1]at h
     by_cases h2:x≠34
     · rw [ah h2]at h
       cases hq:bP l with
       | none=>rw[hq]at h;cases h
       | some q =>
         rw[hq]at h;simp only[gq,aI,aJ]at h;have g:=AP n l q.1 q.2 (by simp at hn;omega) hq;rw[← h.1, ← h.2,List.take_succ_cons,g];have e:eZ (x :: q.1)=x :: eZ q.1:=by unfold eZ;rw[af h2];cases q.1 <;> rfl
         rw[e];rfl
     · rw [af h2]at h
       have hx:x=34:=by omega
       cases l with
       | nil=>simp only[aI,aJ]at h;rw[← h.1, ← h.2,hx];rfl
       | cons y m =>
         by_cases hy:y=34
         · simp only [hy,if_true]at h
           cases hq:bP m with
           | none=>rw[hq]at h;cases h
           | some q =>
             rw[hq]at h;simp only[gq,aI,aJ]at h;have g:=AP n m q.1 q.2 (by simp at hn;omega) hq;rw[← h.1, ← h.2,List.take_succ_cons,List.take_succ_cons,g,hx,hy];rfl
         · simp only[hy,if_false,aI,aJ]at h
           rw[← h.1, ← h.2,hx];rfl
theorem Zo (l:List Int)(t:ai)(n:Nat)(hb:Bytes l)(h:cK l=some (t,n)):l.take n=bQ t∧t.goto 0=t:=by
 cases l with
 | nil=>simp[cK]at h
 | cons x l =>
   rw[nD]at h;by_cases h1:isNum x=true
   · rw [ah h1]at h
     unfold kZ at h;split at h
     · cases h
     · rename_i hn
       simp only[aI,aJ]at h;rw[← h.1, ← h.2,E9];refine⟨?_,rfl⟩;have aV:=rW isNum (x :: l);have jI:=A9 isNum x l h1;have zZ:(x :: l).takeWhile isNum=x :: l.takeWhile isNum:=by rw[List.takeWhile_cons,ah h1]
       show(x :: l).takeWhile isNum=aW (bV ((x :: l).takeWhile isNum)).toNat;by_cases c:x=48
       · subst c
         have hl:((48 :: l).takeWhile isNum).length=1:=by
          apply Decidable.byContradiction;intro hc;exact hn (.inl ⟨by omega,rfl⟩)
         have:l.takeWhile isNum=[]:=by
          rw[zZ,aN]at hl;exact mK (by omega)
         rw[zZ,this];show [48]=aW 0;rw[nU 0 (by omega)];rfl
       · exact(Iu _ _ rfl (by rw[zZ];simp) aV (by rw[zZ];simpa using c)).2.symm
   · rw [af h1]at h
     by_cases h2:x=34
     · rw [ah h2]at h
       unfold jr at h;cases hq:bP l with
       | none=>rw[hq]at h;cases h
       | some q =>
         rw[hq]at h;simp only[gq,aI,aJ]at h;obtain⟨g1,g2⟩:=wJ _ l q.1 q.2 (aj _) (fun y hy=>hb y (by simp[hy])) hq;rw[← h.1, ← h.2,List.take_succ_cons,AP _ l q.1 q.2 (aj _) hq,h2];refine⟨?_,rfl⟩;show _=34 :: (eZ (sb (strOfNums q.1))++[34]);rw[iJ _ g1]
     · rw [af h2]at h
       by_cases h3:x=35
       · rw [ah h3]at h
         unfold mY at h;split at h
         · rename_i h5
           simp only[aI,aJ]at h;rw[← h.1, ← h.2,h5];exact⟨rfl,rfl⟩
         · cases h
       · rw [af h3]at h
         by_cases h4:isLet x=true∨x=36
         · rw [ah h4]at h
           unfold lq at h;cases hq:gQ (strOfNums ((x :: l).takeWhile isWord))with
           | some d =>
             rw[hq]at h;simp only[aI,aJ]at h;rw[← h.1, ← h.2,E9];refine⟨?_,rfl⟩;have e:=(tN _ d hq).2.2;rw[iJ _ (hb.span isWord)]at e;exact e.symm
           | none =>
             rw[hq]at h;simp only at h;by_cases hc:jG ((x :: l).takeWhile isWord)=true
             · rw[ah hc]at h
               simp only[aI,aJ]at h;rw[← h.1, ← h.2,E9];exact⟨(iJ _ (hb.span isWord)).symm,rfl⟩
             · rw[af hc]at h;cases h
         · rw [af h4]at h
           unfold lU at h;split at h
           · cases h
           · simp only[aI,aJ]at h
             rw[← h.1, ← h.2];exact⟨(iJ _ (fun y hy=>hb y (List.mem_of_mem_take hy))).symm,rfl⟩
def Tok(t:ai):Prop:=t.kind≠0∧cK (bQ t++[32])=some (t.goto 0,(bQ t).length)∧Bytes (bQ t)
theorem Zp (l:List Int)(t:ai)(n p:Nat)(hb:Bytes l)(h:cK l=some (t,n)):Tok (t.goto p)∧(bQ (t.goto p)).length=n:=by
 obtain⟨h1,h2⟩:=Zo l t n hb h;have hn:=(nE _ _ _ h).2;have e:bQ (t.goto p)=bQ t:=rfl;have hl:(bQ t).length=n:=by rw[← h1,iB];omega
 refine⟨⟨(MG l t n p hb h).2, ?_,by rw[e, ← h1];exact fun y hy=>hb y (List.mem_of_mem_take hy)⟩,by rw[e];exact hl⟩;have h3:cK (bQ t++l.drop n)=some (t,(bQ t).length):=by rw[← h1,List.take_append_drop,h,h1,hl]
 have h4:=Ze (b':=[32]) (.inr rfl) h3;rw[e,h4];show some (t,_)=some (t.goto 0,_);rw[h2]
def uY:List ai→Nat
 | []=>0
 | t :: ts=>(bQ t).length+uY ts
theorem Am(t:ai)(ts:List ai):uY (t :: ts)=(bQ t).length+uY ts:=rfl
theorem Uv {a b:List ai}(h:a.Sublist b):uY a≤uY b:=by
 induction h with
 | slnil=>exact aj _
 | cons t _ ih=>rw[Am];omega
 | cons_cons t _ ih=>rw[Am,Am];omega
theorem Ef:∀(f p:Nat)(l:List Int)(ts:List ai),Bytes l→bU f p l=some ts→∃body e,ts=body++[e]∧e.kind=0∧(∀t∈body,Tok t)∧uY body≤l.length
 | f,p,[],ts,_,h=>by
   have h0:bU f p []=some [ai.zero.goto p]:=by unfold bU;rfl
   rw[h0]at h;injection h with h;subst h;exact⟨[],_,rfl,rfl,by simp,aj _⟩
 | 0,_,_ :: _,_,_,h=>by unfold bU at h;cases h
 | f + 1, p,x :: l,ts,hb,h=>by
   have hbl:Bytes l:=fun y hy=>hb y (by simp[hy])
   rw[nk]at h;by_cases hx:x=32
   · rw[ah hx]at h
     obtain⟨body,e,h1,h2,h3,h4⟩:=Ef f (p+1) l ts hbl h;exact⟨body,e,h1,h2,h3,by simp only[aN];omega⟩
   · rw [af hx]at h
     cases hq:cK (x :: l)with
     | none=>rw[hq]at h;cases h
     | some q =>
       obtain⟨t0,n⟩:=q;have hn:=nE _ _ _ hq;rw[hq]at h;simp only[Option.map_eq_some_iff]at h;obtain⟨us,h1,rfl⟩:=h;obtain⟨body,e,k1,k2,k3,k4⟩:=Ef f (p+n) _ us (fun y hy=>hb y (List.mem_of_mem_drop hy)) h1;obtain⟨g1,g2⟩:=Zp (x :: l) t0 n p hb hq;refine⟨t0.goto p :: body,e,by rw[k1];rfl,k2, ?_, ?_⟩
       · intro t ht
         rcases gp.1 ht with rfl|ht
         · exact g1
         · exact k3 t ht
       · rw[Am,g2];rw[jX]at k4;omega
theorem Ey:∀(l b:List Int),(∀x∈l,¬ x<32)→(∀x,b.head? = some x→x≠34)→bP (eZ l++34 :: b)=some (l,(eZ l).length+1)
 | [],b,_,hb=>by
   show bP (34 :: b)=_;rw[oz,af (by omega),af (by omega)];cases b with
   | nil=>rfl
   | cons y m =>
     have:=hb y rfl;simp only[this,if_false];rfl
 | x :: l,b,h,hb=>by
   have ih:=Ey l b (fun y hy=>h y (by simp[hy])) hb;have hx:=h x (by simp);by_cases h34:x=34
   · subst h34
     show bP (34 :: 34 :: (eZ l++34 :: b))=_;rw[oz,af (by omega),af (by omega)];simp only[if_true];rw[ih];rfl
   · have e:eZ (x :: l)=x :: eZ l:=by show(if x=34 then [34,34]else [x])++eZ l=_;rw[af h34];rfl
     rw[e,bM,oz,af hx,ah h34,ih];rfl
def Bj (t:ai)(b:List Int):Prop :=
 (t.kind≠5→∀x,b.head? = some x→isWord x=false∧x≠34)∧(t.kind=5→(t.text=⟨#[60]⟩∨t.text=⟨#[62]⟩)→∀x,b.head? = some x→x≠61∧x≠62)
theorem Z5 (h:isWord x=false):isNum x=false:=by
 cases c:isNum x with
 | false=>rfl
 | true=>rw[Fv c]at h;cases h
theorem Zh {a b:List Int}(uK:Bytes a)(hq:cK (a++[32])=some (t,a.length))(hb:Bj t b):cK (a++b)=some (t,a.length):=by
 cases a with
 | nil =>
   have:=(nE _ _ _ hq).1;simp at this
 | cons x a =>
   have hsp:∀(p:Int→Bool),p 32=false→((x :: (a++[32])).takeWhile p).length=(x :: a).length→(∀y,b.head? = some y→p y=false)→(x :: (a++[32])).takeWhile p=x :: a∧(x :: (a++b)).takeWhile p=x :: a:=by
    intro p hp hl hh;obtain⟨e1,_⟩:=Mk (a:=x :: a) (b:=[32]) (b':=[32]) hp (.inr rfl) hl;refine⟨e1, ?_⟩;have aV:∀y∈x :: a,p y=true:=fun y hy=>rW p (x :: (a++[32])) y (by rw[show(x :: (a++[32])).takeWhile p=x :: a from e1];exact hy)
    exact qb p (x :: a) b aV hh
   rw[bM,nD]at hq ⊢;by_cases h1:isNum x=true
   · rw [ah h1]at hq ⊢
     unfold kZ at hq;split at hq
     · cases hq
     · rename_i hn
       simp only[aI,aJ]at hq;have hk:t.kind≠5:=by rw[← hq.1];simp
       obtain⟨e1,e2⟩:=hsp isNum (by decide) hq.2 (fun y hy=>Z5 (hb.1 hk y hy).1);unfold kZ;rw[e2];rw[e1]at hn hq;rw[af (show ¬(1<(x :: a).length∧(x :: (a++b)).head? = some 48∨9223372036854775807<bV (x :: a))from hn)];exact congrArg (fun u=>some (u,(x :: a).length)) hq.1
   · rw [af h1] at hq ⊢
     by_cases h2:x=34
     · rw [ah h2]at hq ⊢
       unfold jr at hq ⊢;cases hr:bP (a++[32])with
       | none=>rw[hr]at hq;cases hq
       | some q =>
         rw[hr]at hq;simp only[gq,aI,aJ,aN]at hq;have hk:t.kind≠5:=by rw[← hq.1];simp
         have hb2:Bytes (a++[32]):=by
          intro y hy;rcases eG.1 hy with hy|hy
          · exact uK y (by simp[hy])
          · simp at hy;omega
         have g1:=(wJ _ _ q.1 q.2 (aj _) hb2 hr).2;have g2:=AP _ _ q.1 q.2 (aj _) hr;have hl:q.2=a.length:=by omega
         rw[hl,List.take_left]at g2;have e:a++b=eZ q.1++34 :: b:=by rw[g2];simp
         have e2:(eZ q.1).length+1=a.length:=by rw[g2];simp
         rw[e,Ey q.1 b g1 (fun y hy=>(hb.1 hk y hy).2)];simp only[gq,aN,aI,aJ];exact⟨hq.1,by omega⟩
     · rw [af h2]at hq ⊢
       by_cases h3:x=35
       · rw [ah h3]at hq ⊢
         unfold mY at hq ⊢;by_cases h5:(x :: (a++[32])).take 5=[35,82,69,70,33]
         · rw[ah h5]at hq
           simp only[aI,aJ]at hq;have e1:(x :: (a++[32])).take 5=x :: a:=by rw[hq.2, ← bM];exact take_len _ _
           have e2:(x :: (a++b)).take 5=x :: a:=by rw[hq.2, ← bM];exact take_len _ _
           rw[e1]at h5;rw[e2,ah h5,hq.1];exact congrArg (fun k=>some (t,k)) hq.2
         · rw[af h5]at hq;cases hq
       · rw [af h3]at hq ⊢
         by_cases h4:isLet x=true∨x=36
         · rw [ah h4]at hq ⊢
           have hn:((x :: (a++[32])).takeWhile isWord).length=(x :: a).length∧t.kind≠5:=by
            unfold lq at hq;split at hq
            · simp only[aI,aJ]at hq;exact⟨hq.2,by rw[← hq.1];simp⟩
            · split at hq
              · simp only[aI,aJ]at hq;exact⟨hq.2,by rw[← hq.1];simp⟩
              · cases hq
           obtain⟨e1,e2⟩:=hsp isWord (by decide) hn.1 (fun y hy=>(hb.1 hn.2 y hy).1);rw[← hq];unfold lq;rw[e1,e2]
         · rw [af h4]at hq ⊢
           unfold lU at hq ⊢;by_cases h5:jv (x :: (a++[32]))=0
           · rw[ah h5]at hq;cases hq
           · rw [af h5]at hq
             simp only[aI,aJ]at hq;have e1:(x :: (a++[32])).take (x :: a).length=x :: a:=by rw[← bM];exact take_len _ _
             have e2:(x :: (a++b)).take (x :: a).length=x :: a:=by rw[← bM];exact take_len _ _
             have e:jv (x :: (a++b))=jv (x :: (a++[32])):=by
              cases a with
              | nil =>
                have hs:jv (x :: [32])=1:=hq.2
                have ht:t.text=strOfNums [x]:=by
                 rw[← hq.1];show strOfNums (List.take (jv (x :: [32])) (x :: [32]))=_;rw[hs];rfl
                have hk:t.kind=5:=by rw[← hq.1]
                have h6:¬ ((x=60∧(b.head? = some 62∨b.head? = some 61))∨(x=62∧b.head? = some 61)):=by
                 rintro(⟨rfl,h|h⟩|⟨rfl,h⟩)
                 · exact(hb.2 hk (.inl ht) _ h).2 rfl
                 · exact(hb.2 hk (.inl ht) _ h).1 rfl
                 · exact(hb.2 hk (.inr ht) _ h).1 rfl
                show jv (x :: b)=jv (x :: [32]);have h7:¬ ((x=60∧(([32]:List Int).head? = some 62∨([32]:List Int).head? = some 61))∨(x=62∧([32]:List Int).head? = some 61)):=by simp
                rw[qa,qa,af h6,af h7]
              | cons y a=>rw[qa,qa];rfl
             rw[e,af h5, ← hq.1,hq.2,e1,e2]
theorem Zk {l:List Int}(h:cK (x :: l)=some (t,n)):x≠32∧(t.kind=5→isWord x=false∧x≠34)∧(t.kind≠5→x≠61∧x≠62):=by
 rw[nD]at h;by_cases h1:isNum x=true
 · rw [ah h1]at h
   have hx:=oq h1;unfold kZ at h;split at h
   · cases h
   · simp only[aI,aJ]at h
     refine⟨by omega,fun h5 => ?_,fun _=>by omega⟩;rw[← h.1]at h5;simp at h5
 · rw [af h1]at h
   by_cases h2:x=34
   · rw [ah h2]at h
     unfold jr at h;cases hq:bP l with
     | none=>rw[hq]at h;cases h
     | some q =>
       rw[hq]at h;simp only[gq,aI,aJ]at h;refine⟨by omega,fun h5 => ?_,fun _=>by omega⟩;rw[← h.1]at h5;simp at h5
   · rw [af h2]at h
     by_cases h3:x=35
     · rw [ah h3]at h
       unfold mY at h;split at h
       · simp only[aI,aJ]at h
         refine⟨by omega,fun h5 => ?_,fun _=>by omega⟩;rw[← h.1]at h5;simp at h5
       · cases h
     · rw [af h3]at h
       by_cases h4:isLet x=true∨x=36
       · rw [ah h4]at h
         have hx:x≠32∧x≠61∧x≠62:=by
          rcases h4 with h4|h4
          · unfold isLet at h4;rw[aA]at h4;omega
          · omega
         refine⟨hx.1,fun h5 => ?_,fun _=>hx.2⟩;unfold lq at h;split at h
         · simp only[aI,aJ]at h
           rw[← h.1]at h5;simp at h5
         · split at h
           · simp only[aI,aJ]at h
             rw[← h.1]at h5;simp at h5
           · cases h
       · rw [af h4]at h
         unfold lU at h;split at h
         · cases h
         · rename_i h5
           simp only[aI,aJ]at h;rw[qa]at h5
           have hx:x≠32∧x≠33:=by
            refine⟨?_, ?_⟩
            · rintro rfl;exact h5 (by rw[af (by omega),af (by omega)])
            · rintro rfl;exact h5 (by rw[af (by omega),af (by omega)])
           refine⟨hx.1,fun _=>⟨?_,h2⟩,fun h6=>absurd (show t.kind=5 by rw[← h.1]) h6⟩;unfold isWord
           have g1:isLet x=false:=by cases c:isLet x with
            | false=>rfl
            | true=>exact absurd (.inl c) h4
           have g2:isNum x=false:=by cases c:isNum x with
            | false=>rfl
            | true=>exact absurd c h1
           rw[g1,g2];simp only[Bool.false_or];exact aK (by rintro(h|h);exact h4 (.inr h);exact hx.2 h)
def yU(t:ai):Prop:=t.kind≠5∨t.text=⟨#[40]⟩∨t.text=⟨#[45]⟩
def GL(t:ai):Prop:=t.kind≠5∨t.text=⟨#[41]⟩
def Pr(t u:ai):Prop:=(t.kind≠5→u.kind=5)∧(t.kind=5→(t.text=⟨#[60]⟩∨t.text=⟨#[62]⟩)→yU u)
def Sep:List ai→Prop
 | []=>True
 | t :: ts=>(∀u,ts.head? = some u→Pr t u)∧Sep ts
theorem Sep.app:∀ {a b:List ai},Sep a→Sep b→(∀t u,a.getLast? = some t→b.head? = some u→Pr t u)→Sep (a++b)
 | [],_,_,h,_=>h
 | [t],b,_,h,hj=>⟨fun u hu=>hj t u rfl hu,h⟩
 | t :: t' :: a,b,g,h,hj=>⟨fun u hu=>g.1 u hu,Sep.app (a:=t' :: a) g.2 h (fun v u hv hu=>hj v u (by rw[← hv];rfl) hu)⟩
theorem Kv {u:ai}(h:GL t)(hu:dD s u):Pr t u:=by
 refine⟨fun _=>hu.1,fun h5 hs => ?_⟩;rcases h with h|h
 · exact absurd h5 h
 · rw[h]at hs;exact absurd hs (by decide)
theorem EO{u:ai}(ht:dD s t)(h:yU u):Pr t u:=⟨fun h5=>absurd ht.1 h5,fun _ _=>h⟩
def eU(ts:List ai):Prop:=Sep ts∧(∃t l,ts=t :: l∧yU t)∧∃l t,ts=l++[t]∧GL t
theorem eU.one(h:t.kind≠5):eU [t]:=⟨⟨fun u hu=>by simp at hu,trivial⟩,⟨t,[],rfl,.inl h⟩,[],t,rfl,.inl h⟩
theorem eU.ahead {m:ai}(hm:dD s m)(hf:yU m){a:List ai}(h:eU a):eU (m :: a):=by
 obtain⟨h1,⟨t,l,rfl,h2⟩,l',t',e,h3⟩:=h;exact⟨⟨fun u hu=>by injection hu with hu;subst hu;exact EO hm h2,h1⟩,⟨m,_,rfl,hf⟩,m :: l',t',by rw[e];rfl,h3⟩
theorem eU.mid {a b:List ai}{c:ai}(h:eU a)(hc:dD s c)(g:eU b):eU (a++c :: b):=by
 obtain⟨h1,⟨t,l,rfl,h2⟩,l',t',e,h3⟩:=h;obtain⟨g1,⟨u,m,rfl,g2⟩,m',u',e',g3⟩:=g;refine⟨?_,⟨t,_,rfl,h2⟩,(t :: l)++c :: m',u',by rw[e'];simp,g3⟩;refine Sep.app h1 ⟨fun v hv=>by injection hv with hv;subst hv;exact EO hc g2,g1⟩ ?_;intro v w hv hw;injection hw with hw;subst hw;rw[e,List.getLast?_append]at hv;simp at hv;subst hv;exact Kv h3 hc
theorem eU.brk {a:List ai}{l r:ai}(h:eU a)(hl:dD ⟨#[40]⟩ l)(hr:dD ⟨#[41]⟩ r):eU (l :: (a++[r])):=by
 obtain⟨h1,⟨t,k,rfl,h2⟩,l',t',e,h3⟩:=h;refine⟨⟨fun u hu=>by injection hu with hu;subst hu;exact EO hl h2, ?_⟩,⟨l,_,rfl,.inr (.inl hl.2)⟩,l :: (t :: k),r,rfl,.inr hr.2⟩;refine Sep.app h1 ⟨fun u hu=>by simp at hu,trivial⟩ ?_;intro v w hv hw;injection hw with hw;subst hw;rw[e,List.getLast?_append]at hv;simp at hv;subst hv;exact Kv h3 hr
theorem eU.wr {rk:Nat}(h:eU ts)(hw:Wr n rk d ts d' ts'):eU ts':=by
 rcases hw with ⟨_,rfl,_⟩|⟨_,_,l,r,hl,hr,rfl⟩
 · exact h
 · exact h.brk hl hr
theorem eU.name {a:List ai}{l r:ai}(ht:t.kind=3)(hl:dD ⟨#[40]⟩ l)(hr:dD ⟨#[41]⟩ r)(h:a=[]∨eU a):eU (t :: l :: (a++[r])):=by
 have hp:∀u,(l :: (a++[r])).head? = some u→Pr t u:=by
  intro u hu;injection hu with hu;subst hu;exact⟨fun _=>hl.1,fun h=>by omega⟩
 rcases h with rfl|h
 · exact⟨⟨hp,fun u hu=>by injection hu with hu;subst hu;exact⟨fun h=>absurd hl.1 h,fun _ h=>by rw[hl.2]at h;exact absurd h (by decide)⟩,fun u hu=>by simp at hu,trivial⟩,⟨t,_,rfl,.inl (by omega)⟩,[t,l],r,rfl,.inr hr.2⟩
 · have g:=h.brk hl hr
   exact⟨⟨hp,g.1⟩,⟨t,_,rfl,.inl (by omega)⟩,t :: l :: a,r,rfl,.inr hr.2⟩
theorem Us (h:lH ts nd):eU ts:=by
 cases h with
 | num t h=>exact eU.one (by omega)
 | text t h=>exact eU.one (by omega)
 | yes t h _=>exact eU.one (by omega)
 | no t h _=>exact eU.one (by omega)
 | dead t h=>exact eU.one (by omega)
 | ref t h=>exact eU.one (by omega)
 | range t c u h hc g _=>exact eU.mid (a:=[t]) (b:=[u]) (eU.one (by omega)) hc (eU.one (by omega))
theorem LX {b:Bool}{rk:Nat}(h:Sh b base ns ks ts rk d) :
 (b=false→eU ts)∧(b=true→(ks=[]∧ts=[])∨(ks≠[]∧eU ts)):=by
 induction h with
 | leaf base ts nd h=>exact⟨fun _=>Us h,fun h=>by cases h⟩
 | neg base ns a ts rk d h m hm d' ts' hw ih=>exact⟨fun _=>((ih.1 rfl).wr hw).ahead hm (.inr (.inr hm.2)),fun h=>by cases h⟩
 | op base o ho ns ms a b ts us mI jP d1 d2 h g s hs e1 e2 ts' je hw gw ih jL=>exact⟨fun _=>((ih.1 rfl).wr hw).mid hs ((jL.1 rfl).wr gw),fun h=>by cases h⟩
 | call base ns ks ts d h t l r ht h1 h2 hl hr ih =>
   refine⟨fun _=>eU.name ht hl hr ?_,fun h=>by cases h⟩;rcases ih.2 rfl with ⟨_,h⟩|⟨_,h⟩
   · exact .inl h
   · exact .inr h
 | none base=>exact⟨fun h=>(by cases h),fun _ => .inl ⟨rfl,rfl⟩⟩
 | one base ns a ts rk d h ih=>exact⟨fun h=>(by cases h),fun _ => .inr ⟨by simp,ih.1 rfl⟩⟩
 | and base ns ms ks b ts us rk d1 d2 h hk c hc g ih jL =>
   refine⟨fun h=>(by cases h),fun _ => .inr ⟨by simp, ?_⟩⟩;rcases ih.2 rfl with ⟨h,_⟩|⟨_,h⟩
   · exact absurd h hk
   · exact h.mid hc (jL.1 rfl)
def fJ(ts:List ai):List Int:=ts.flatMap bQ
theorem iK(t:ai)(ts:List ai):fJ (t :: ts)=bQ t++fJ ts:=rfl
theorem ZC (ts:List ai):(fJ ts).length=uY ts:=by
 induction ts with
 | nil=>rfl
 | cons t ts ih=>rw[iK,ax,ih];rfl
theorem Fe (h:Tok t):∃x l,bQ t=x :: l∧x≠32∧(t.kind=5→isWord x=false∧x≠34)∧(t.kind≠5→x≠61∧x≠62):=by
 have hn:=(nE _ _ _ h.2.1).1;cases e:bQ t with
 | nil=>rw[e]at hn;simp at hn
 | cons x l =>
   have h2:=h.2.1;rw[e,bM]at h2;have g:=Zk h2;exact⟨x,l,rfl,g.1,fun h=>g.2.1 h,fun h=>g.2.2 h⟩
theorem PG (hp:∀u,ts.head? = some u→Pr t u)(hu:∀u∈ts,Tok u):Bj t (fJ ts):=by
 cases ts with
 | nil=>exact⟨fun _ x hx=>by simp[fJ]at hx,fun _ _ x hx=>by simp[fJ]at hx⟩
 | cons u us =>
   obtain⟨x,l,e,h1,h2,h3⟩:=Fe (hu u (by simp));have hpr:=hp u rfl;have hh:(fJ (u :: us)).head? = some x:=by rw[iK,e];rfl
   refine⟨fun hk y hy => ?_,fun hk hs y hy => ?_⟩
   · rw[hh]at hy;injection hy with hy;subst hy;exact h2 (hpr.1 hk)
   · rw [hh]at hy;injection hy with hy;subst hy
     rcases hpr.2 hk hs with g|g|g
     · exact h3 g
     · by_cases h5:u.kind=5
       · have:bQ u=[40]:=by unfold bQ;simp only[h5,g];rfl
         rw[this]at e;injection e with e _;omega
       · exact h3 h5
     · by_cases h5:u.kind=5
       · have:bQ u=[45]:=by unfold bQ;simp only[h5,g];rfl
         rw[this]at e;injection e with e _;omega
       · exact h3 h5
theorem Kq:∀(ts:List ai)(p:Nat),Sep ts→(∀t∈ts,Tok t)→∃vs e,tF p (fJ ts)=some (vs++[e])∧e.kind=0∧vs.map (ai.goto · 0)=ts.map (ai.goto · 0)
 | [],p,_,_=>⟨[],_,UD p,rfl,rfl⟩
 | t :: ts,p,hs,ht=>by
   have h1:=ht t (by simp);have h2:=h1.2.2;obtain⟨vs,e,g1,g2,g3⟩:=Kq ts (p+(bQ t).length) hs.2 (fun u hu=>ht u (by simp[hu]));obtain⟨x,l,hx,hx2,_⟩:=Fe h1;have hb:Bj t (fJ ts):=PG hs.1 (fun u hu=>ht u (by simp[hu]));have hq:=Zh (t:=t.goto 0) h2 h1.2.1 hb;refine⟨(t.goto 0).goto p :: vs,e, ?_,g2,by rw[fP,fP,g3];rfl⟩;rw[iK,UC p (bQ t) (fJ ts) (t.goto 0) (fun y hy=>by rw[hx]at hy;injection hy with hy;omega) hq,g1];rfl
theorem dD.goto {v:ai}(h:dD s t)(hv:v.goto 0=t.goto 0):dD s v :=
 ⟨(congrArg ai.kind hv).trans h.1,(congrArg ai.text hv).trans h.2⟩
theorem EJ{v:ai}(hv:v.goto 0=t.goto 0):v.df=t.df:=(show(v.goto 0).df=(t.goto 0).df by rw[hv])
theorem lH.goto (h:lH ts nd)(vs:List ai)(hv:vs.map (ai.goto · 0)=ts.map (ai.goto · 0)):lH vs nd:=by
 have one:∀t:ai,vs.map (ai.goto · 0)=[t].map (ai.goto · 0)→∃v,vs=[v]∧v.goto 0=t.goto 0:=by
  intro t h;rw[fP,List.map_nil]at h;obtain⟨v,l,h1,h2,h3⟩:=List.map_eq_cons_iff.1 h;rw[List.map_eq_nil_iff]at h3;exact⟨v,by rw[h1,h3],h2⟩
 cases h with
 | num t h =>
   obtain⟨v,rfl,e⟩:=one t hv;have:=congrArg ai.num e;rw[← show v.num=t.num from this];exact .num v ((congrArg ai.kind e).trans h)
 | text t h =>
   obtain⟨v,rfl,e⟩:=one t hv;have:=congrArg ai.text e;rw[← show v.text=t.text from this];exact .text v ((congrArg ai.kind e).trans h)
 | yes t h g =>
   obtain⟨v,rfl,e⟩:=one t hv;exact .yes v ((congrArg ai.kind e).trans h) ((congrArg ai.text e).trans g)
 | no t h g =>
   obtain⟨v,rfl,e⟩:=one t hv;exact .no v ((congrArg ai.kind e).trans h) ((congrArg ai.text e).trans g)
 | dead t h =>
   obtain⟨v,rfl,e⟩:=one t hv;exact .dead v ((congrArg ai.kind e).trans h)
 | ref t h =>
   obtain⟨v,rfl,e⟩:=one t hv;rw[← EJ e];exact .ref v ((congrArg ai.kind e).trans h)
 | range t c u h hc g hs =>
   rw[fP,fP,fP,List.map_nil]at hv;obtain⟨t',l,rfl,e1,h3⟩:=List.map_eq_cons_iff.1 hv;obtain⟨c',l,rfl,e2,h3⟩:=List.map_eq_cons_iff.1 h3;obtain⟨u',l,rfl,e3,h3⟩:=List.map_eq_cons_iff.1 h3;rw[List.map_eq_nil_iff]at h3;subst h3;rw[← EJ e1, ← EJ e3]at hs ⊢;exact .range t' c' u' ((congrArg ai.kind e1).trans h) (hc.goto e2) ((congrArg ai.kind e3).trans g) hs
theorem Wr.goto {rk:Nat}{vs':List ai}(h:Wr n rk d ts d' ts')(hv:vs'.map (ai.goto · 0)=ts'.map (ai.goto · 0)):∃vs,vs.map (ai.goto · 0)=ts.map (ai.goto · 0)∧Wr n rk d vs d' vs':=by
 rcases h with ⟨h1,rfl,rfl⟩|⟨h1,rfl,l,r,hl,hr,rfl⟩
 · exact⟨vs',hv,.inl ⟨h1,rfl,rfl⟩⟩
 · rw[fP,gW,fP,List.map_nil]at hv
   obtain⟨l',k,rfl,e1,h3⟩:=List.map_eq_cons_iff.1 hv;obtain⟨vs,k2,rfl,e2,h3⟩:=List.map_eq_append_iff.1 h3;obtain⟨r',k3,rfl,e3,h3⟩:=List.map_eq_cons_iff.1 h3;rw[List.map_eq_nil_iff]at h3;subst h3;exact⟨vs,e2,.inr ⟨h1,rfl,l',r',hl.goto e1,hr.goto e3,rfl⟩⟩
theorem Sh.goto {b:Bool}{rk:Nat}(h:Sh b base ns ks ts rk d):∀vs:List ai,vs.map (ai.goto · 0)=ts.map (ai.goto · 0)→Sh b base ns ks vs rk d:=by
 induction h with
 | leaf base ts nd h=>exact fun vs hv => .leaf base vs nd (h.goto vs hv)
 | neg base ns a ts rk d h m hm d' ts' hw ih =>
   intro vs hv;rw[fP]at hv;obtain⟨m',k,rfl,e1,h3⟩:=List.map_eq_cons_iff.1 hv;obtain⟨us,e2,hw'⟩:=hw.goto h3;exact .neg base ns a us rk d (ih us e2) m' (hm.goto e1) d' k hw'
 | op base o ho ns ms a b ts us mI jP d1 d2 h g s hs e1 e2 ts' je hw gw ih jL =>
   intro vs hv;rw[gW,fP]at hv;obtain⟨a',k,rfl,f1,h3⟩:=List.map_eq_append_iff.1 hv;obtain⟨s',b',rfl,f2,f3⟩:=List.map_eq_cons_iff.1 h3;obtain⟨xs,x1,hw'⟩:=hw.goto f1;obtain⟨ys,y1,RU⟩:=gw.goto f3;exact .op base o ho ns ms a b xs ys mI jP d1 d2 (ih xs x1) (jL ys y1) s' (hs.goto f2) e1 e2 a' b' hw' RU
 | call base ns ks ts d h t l r ht h1 h2 hl hr ih =>
   intro vs hv;rw[fP,fP,gW,fP,List.map_nil]at hv;obtain⟨t',k,rfl,f1,h3⟩:=List.map_eq_cons_iff.1 hv;obtain⟨l',k,rfl,f2,h3⟩:=List.map_eq_cons_iff.1 h3;obtain⟨a',k,rfl,f3,h3⟩:=List.map_eq_append_iff.1 h3;obtain⟨r',k,rfl,f4,h3⟩:=List.map_eq_cons_iff.1 h3;rw[List.map_eq_nil_iff]at h3;subst h3;have ht':t'.text=t.text:=(show(t'.goto 0).text=(t.goto 0).text by rw[f1]);rw[← ht'];exact .call base ns ks a' d (ih a' f3) t' l' r' ((congrArg ai.kind f1).trans ht) (by rw[ht'];exact h1) (by rw[ht'];exact h2) (hl.goto f2) (hr.goto f4)
 | none base =>
   intro vs hv;rw[List.map_nil,List.map_eq_nil_iff]at hv;subst hv;exact .none base
 | one base ns a ts rk d h ih=>exact fun vs hv => .one base ns a vs rk d (ih vs hv)
 | and base ns ms ks b ts us rk d1 d2 h hk c hc g ih jL =>
   intro vs hv;rw[gW,fP]at hv;obtain⟨a',k,rfl,f1,h3⟩:=List.map_eq_append_iff.1 hv;obtain⟨c',b',rfl,f2,f3⟩:=List.map_eq_cons_iff.1 h3;exact .and base ns ms ks b a' b' rk d1 d2 (ih a' f1) hk c' (hc.goto f2) (jL b' f3)
theorem Ym {a:Int}{rk:Nat}(h:Sh false 0 ns [a] ts rk d)(hd:d≤12)(ht:∀t∈ts,Tok t):∃vs g,gH (fJ ts)=some vs∧lh g vs=some (.ok ns):=by
 obtain⟨vs,e,h1,h2,h3⟩:=Kq ts 0 ((LX h).1 rfl).1 ht;obtain⟨g,hg⟩:=Yk (h.goto vs h3) hd e h2;exact⟨vs++[e],g,h1,hg⟩
theorem MK {l:List Int}{f:Nat}(hb:Bytes l)(hl:gH l=some ts)(hp:lh f ts=some (.ok ns)) :
 ∃us rk d a,Sh false 0 ns [a] us rk d∧d≤12∧(∀t∈us,Tok t)∧(fJ us).length≤l.length∧∃vs g,gH (fJ us)=some vs∧lh g vs=some (.ok ns):=by
 obtain⟨body,e,h1,h2,h3,h4⟩:=Ef _ _ _ _ hb hl;unfold lh at hp;rcases bY hp with ⟨er,_,h5⟩|⟨ms,a,r,h5,h6⟩
 · cases h5
 · by_cases hk:tu r=0
   · rw [ah hk]at h6
     injection h6 with h6;injection h6 with h6;subst h6;obtain⟨pre,e1,us,rk,d,je,d',g1,g2,g3,g4⟩:=(Jh f).1 _ _ _ _ _ _ _ h5 (by omega) (by omega);obtain⟨WC,e2,k2,_⟩:=((vE f).1 _ _ _ _ _ _ _ h5).1;rcases g2 with ⟨_,rfl,rfl⟩|⟨g2,_⟩
     · have ep:pre=WC:=List.append_cancel_right (e1.symm.trans e2)
       subst ep
       have JI:je.Sublist body:=by
        have s1:je.Sublist ts:=by rw[e1];exact g3.trans (List.sublist_append_left _ _)
        have s2:=s1.filter (fun t=>decide (t.kind≠0));rw[h1,List.filter_append]at s2;have f1:je.filter (fun t=>decide (t.kind≠0))=je:=List.filter_eq_self.2 (fun t ht=>aL (k2 t (g3.subset ht)));have f2:body.filter (fun t=>decide (t.kind≠0))=body:=List.filter_eq_self.2 (fun t ht=>aL (h3 t ht).1);have f3:[e].filter (fun t=>decide (t.kind≠0))=[]:=by simp[h2]
        rw[f1,f2,f3,bE]at s2;exact s2
       have Ad:∀t∈je,Tok t:=fun t ht=>h3 t (JI.subset ht)
       refine⟨je,rk,d',_,g1,by omega,Ad, ?_,Ym g1 (by omega) Ad⟩;rw[ZC];exact eO (Uv JI) h4
     · omega
   · rw[af hk]at h6;injection h6 with h6;cases h6
def bq(k:Int):Nat:=if 9≤k∧k≤14 then 0 else if k=15 then 1 else if 16≤k∧k≤17 then 2 else if 18≤k∧k≤19 then 3 else if k=8 then 4 else 5
def jM(b:Bool)(t:List Int):List Int:=if b=true then 40 :: (t++[41])else t
def oh:List (List Int)→List Int
 | []=>[]
 | [a]=>a
 | a :: b :: l=>a++44 :: oh (b :: l)
def nodeAt(l:List Nd)(at':Int):Nd:=l.getD at'.toNat Nd.zero
def iw:Nat→List Nd→Int→List Int
 | 0,_,_=>[]
 | f + 1,l,i =>
   if (nodeAt l i).kind=1 then aW (nodeAt l i).num.toNat
   else if (nodeAt l i).kind=2 then 34 :: (eZ (sb (nodeAt l i).text)++[34])
   else if (nodeAt l i).kind=3 then (if (nodeAt l i).num=1 then [84,82,85,69]else [70,65,76,83,69])
   else if (nodeAt l i).kind=4 then [35,82,69,70,33]
   else if (nodeAt l i).kind=5 then bC (sb (nodeAt l i).ref.sh) (nodeAt l i).ref.c (nodeAt l i).ref.r (nodeAt l i).ref.ac (nodeAt l i).ref.ar
   else if (nodeAt l i).kind=6 then bC (sb (nodeAt l i).ref.sh) (nodeAt l i).ref.c (nodeAt l i).ref.r (nodeAt l i).ref.ac (nodeAt l i).ref.ar++58 :: bC (sb (nodeAt l i).ag.sh) (nodeAt l i).ag.c (nodeAt l i).ag.r (nodeAt l i).ag.ac (nodeAt l i).ag.ar
   else if (nodeAt l i).kind=7 then sb (nodeAt l i).text++40 :: (oh ((nodeAt l i).kids.map (iw f l))++[41])
   else if (nodeAt l i).kind=8 then 45 :: jM (decide (bq (nodeAt l ((nodeAt l i).kids.getD 0 0)).kind<4)) (iw f l ((nodeAt l i).kids.getD 0 0))
   else jM (decide (bq (nodeAt l ((nodeAt l i).kids.getD 0 0)).kind<bq (nodeAt l i).kind)) (iw f l ((nodeAt l i).kids.getD 0 0)) ++
    (wG ((nodeAt l i).kind - 9).toNat++jM (decide (bq (nodeAt l ((nodeAt l i).kids.getD 1 0)).kind≤bq (nodeAt l i).kind)) (iw f l ((nodeAt l i).kids.getD 1 0)))
def gm(l:List Nd):List Int:=if dC l=true then iw l.length l ((l.length:Int) - 1)else []
theorem J8 (y:List Int):∀xs:List (List Int),xs≠[]→oh (xs++[y])=oh xs++44 :: y
 | [],h=>absurd rfl h
 | [x],_=>rfl
 | x :: x' :: xs,_=>by
   have ih:=J8 y (x' :: xs) (by simp);show x++44 :: oh (x' :: xs++[y])=x++44 :: oh (x' :: xs)++44 :: y;rw[ih];simp
theorem vw (f:Nat)(l:List Nd)(i:Int)(n:Nd)(h:nodeAt l i=n):iw (f+1) l i =
 if n.kind=1 then aW n.num.toNat
 else if n.kind=2 then 34 :: (eZ (sb n.text)++[34])
 else if n.kind=3 then (if n.num=1 then [84,82,85,69]else [70,65,76,83,69])
 else if n.kind=4 then [35,82,69,70,33]
 else if n.kind=5 then bC (sb n.ref.sh) n.ref.c n.ref.r n.ref.ac n.ref.ar
 else if n.kind=6 then bC (sb n.ref.sh) n.ref.c n.ref.r n.ref.ac n.ref.ar++58 :: bC (sb n.ag.sh) n.ag.c n.ag.r n.ag.ac n.ag.ar
 else if n.kind=7 then sb n.text++40 :: (oh (n.kids.map (iw f l))++[41])
 else if n.kind=8 then 45 :: jM (decide (bq (nodeAt l (n.kids.getD 0 0)).kind<4)) (iw f l (n.kids.getD 0 0))
 else jM (decide (bq (nodeAt l (n.kids.getD 0 0)).kind<bq n.kind)) (iw f l (n.kids.getD 0 0)) ++
  (wG (n.kind - 9).toNat++jM (decide (bq (nodeAt l (n.kids.getD 1 0)).kind≤bq n.kind)) (iw f l (n.kids.getD 1 0))):=by
 subst h;conv=>lhs;unfold iw
theorem Bd(a b:List ai):fJ (a++b)=fJ a++fJ b:=by unfold fJ;rw[List.flatMap_append]
theorem tY (h:dD s t):bQ t=sb s:=by
 unfold bQ;rw[h.1,h.2];rfl
theorem Fj {rk:Nat}(h:Wr n rk d ts d' ts'):fJ ts'=jM (decide (rk<n)) (fJ ts):=by
 rcases h with ⟨h,rfl,_⟩|⟨h,_,l,r,hl,hr,rfl⟩
 · rw[aK (by omega)];rfl
 · rw[aL h,iK,Bd,iK,tY hl,tY hr];rfl
def q9(l:List Nd)(base:Nat)(ns:List Nd):Prop:=∃pre post,l=pre++(ns++post)∧pre.length=base
theorem q9.left (h:q9 l base (ns++ms)):q9 l base ns:=by
 obtain⟨p,q,h1,h2⟩:=h;exact⟨p,ms++q,by rw[h1];simp,h2⟩
theorem q9.right (h:q9 l base (ns++ms)):q9 l (base+ns.length) ms:=by
 obtain⟨p,q,h1,h2⟩:=h;exact⟨p++ns,q,by rw[h1];simp,by rw[ax,h2]⟩
theorem q9.at {n:Nd}(h:q9 l base [n]):nodeAt l (base:Int)=n:=by
 obtain⟨p,q,h1,h2⟩:=h;unfold nodeAt;rw[h1,Int.toNat_natCast, ← h2];simp
theorem KY:∀o:Nat,o<11→bq (9+(o:Int))=rk o∧sb (gN.getD o ⟨#[]⟩)=wG o:=by decide +kernel
theorem Yl {b:Bool}(h:Sh b base ns ks ts qH d) :
 ∀l f,q9 l base ns→ns.length≤f→(b=false→∀a,ks=[a]→iw f l a=fJ ts∧bq (nodeAt l a).kind=qH)∧(b=true→oh (ks.map (iw f l))=fJ ts):=by
 induction h with
 | leaf base ts nd h =>
   intro l f hi hf;refine⟨fun _ a ha => ?_,fun h=>by cases h⟩;injection ha with ha _;subst ha;obtain⟨g,rfl⟩:∃g,f=g+1:=⟨f - 1,by simp at hf;omega⟩;have hn:=hi.at
   rw[hn];rw[vw g l _ nd hn];cases h with
   | num t h=>refine⟨?_,rfl⟩;rw[ah rfl,iK];unfold bQ;rw[ah h];simp[fJ]
   | text t h=>refine⟨?_,rfl⟩;rw[af (by simp),ah rfl,iK];unfold bQ;rw[h,af (by decide),ah rfl];simp[fJ]
   | yes t h g=>refine⟨?_,rfl⟩;rw[af (by decide),af (by decide),ah rfl,ah rfl,iK];unfold bQ;rw[h,g,af (by decide),af (by decide),af (by decide),af (by decide)];rfl
   | no t h g=>refine⟨?_,rfl⟩;rw[af (by decide),af (by decide),ah rfl,af (by decide),iK];unfold bQ;rw[h,g,af (by decide),af (by decide),af (by decide),af (by decide)];rfl
   | dead t h=>refine⟨?_,rfl⟩;rw[af (by decide),af (by decide),af (by decide),ah rfl,iK];unfold bQ;rw[h,af (by decide),af (by decide),af (by decide),ah rfl];rfl
   | ref t h =>
     refine⟨?_,rfl⟩;rw[af (by simp),af (by simp),af (by simp),af (by simp),ah rfl,iK];unfold bQ;rw[h,af (by decide),af (by decide),ah rfl];simp[fJ,ai.df]
   | range t c u h hc g hs =>
     refine⟨?_,rfl⟩;rw[af (by simp),af (by simp),af (by simp),af (by simp),af (by simp),ah rfl,iK,iK,iK,tY hc];unfold bQ;rw[h,g,af (by decide),af (by decide),ah rfl,af (by decide),af (by decide),ah rfl];have:sb (⟨#[58]⟩:ByteArray)=[58]:=by decide
     rw[this];simp[fJ,ai.df]
 | neg base ns a ts rk d h m hm d' ts' hw ih =>
   intro l f hi hf;refine⟨fun _ a' ha => ?_,fun h=>by cases h⟩;injection ha with ha _;subst ha;rw[ax,gu]at hf;obtain⟨g,rfl⟩:∃g,f=g+1:=⟨f - 1,by omega⟩;obtain⟨e1,e2⟩:=(ih l g hi.left (by omega)).1 rfl a rfl;have hn:=hi.right.at
   rw[hn];refine⟨?_,rfl⟩;rw[vw g l _ _ hn,af (by simp),af (by simp),af (by simp),af (by simp),af (by simp),af (by simp),af (by simp),ah rfl,iK,tY hm,Fj hw];show 45 :: jM (decide (bq (nodeAt l a).kind<4)) (iw g l a)=_;rw[e1,e2];rfl
 | op base o ho ns ms a b ts us mI jP d1 d2 h g s hs x1 x2 ts' je hw gw ih jL =>
   intro l f hi hf;refine⟨fun _ a' ha => ?_,fun h=>by cases h⟩;injection ha with ha _;subst ha;rw[ax,ax,gu]at hf;obtain⟨q,rfl⟩:∃q,f=q+1:=⟨f - 1,by omega⟩;obtain⟨e1,e2⟩:=(ih l q hi.left (by omega)).1 rfl a rfl;obtain⟨j1,j2⟩:=(jL l q hi.right.left (by omega)).1 rfl b rfl;have hn:=hi.right.right.at
   rw[Nat.add_assoc]at hn;obtain⟨hr,ht⟩:=KY o ho;rw[hn];refine⟨?_,hr⟩
   rw [vw q l _ _ hn,af (by show ¬ 9+(o:Int)=1;omega),af (by show ¬ 9+(o:Int)=2;omega),af (by show ¬ 9+(o:Int)=3;omega),af (by show ¬ 9+(o:Int)=4;omega),af (by show ¬ 9+(o:Int)=5;omega),
    af (by show ¬ 9+(o:Int)=6;omega),af (by show ¬ 9+(o:Int)=7;omega),af (by show ¬ 9+(o:Int)=8;omega),Bd,iK,tY hs,Fj hw,Fj gw]
   show jM (decide (bq (nodeAt l a).kind<bq (9+(o:Int)))) (iw q l a)++(wG (9+(o:Int) - 9).toNat++jM (decide (bq (nodeAt l b).kind≤bq (9+(o:Int)))) (iw q l b))=_;rw[e1,e2,j1,j2,hr,ht,show(9+(o:Int) - 9).toNat=o by omega];have:decide (jP≤rk o)=decide (jP<rk o+1):=by rw[decide_eq_decide];omega
   rw[this]
 | call base ns ks ts d h t x r ht h1 h2 hl hr ih =>
   intro l f hi hf;refine⟨fun _ a' ha => ?_,fun h=>by cases h⟩;injection ha with ha _;subst ha;rw[ax,gu]at hf;obtain⟨g,rfl⟩:∃g,f=g+1:=⟨f - 1,by omega⟩;have e1:=(ih l g hi.left (by omega)).2 rfl;have hn:=hi.right.at
   rw[hn];refine⟨?_,rfl⟩;rw[vw g l _ _ hn,af (by simp),af (by simp),af (by simp),af (by simp),af (by simp),af (by simp),ah rfl,iK,iK,Bd,iK,tY hl,tY hr];have:bQ t=sb t.text:=by unfold bQ;rw[ht];rfl
   rw[this];show sb t.text++40 :: (oh (ks.map (iw g l))++[41])=_;rw[e1];rfl
 | none base=>exact fun l f _ _=>⟨fun h=>(by cases h),fun _=>rfl⟩
 | one base ns a ts rk d h ih =>
   intro l f hi hf;exact⟨fun h=>(by cases h),fun _=>((ih l f hi hf).1 rfl a rfl).1⟩
 | and base ns ms ks b ts us rk d1 d2 h hk c hc g ih jL =>
   intro l f hi hf;refine⟨fun h=>(by cases h),fun _ => ?_⟩;rw[ax]at hf;have e1:=(ih l f hi.left (by omega)).2 rfl;have e2:=((jL l f hi.right (by omega)).1 rfl b rfl).1;rw[gW,fP,List.map_nil,J8 _ _ (by simpa using hk),e1,e2,Bd,iK,tY hc];rfl
theorem Yh {b:Bool}(h:Sh b base ns ks ts qH d):b=false→ks=[((base+ns.length:Nat):Int) - 1]:=by
 cases h with
 | leaf base ts nd h=>intro _;simp
 | neg base ns a ts rk d h m hm d' ts' hw=>intro _;simp;omega
 | op base o ho ns ms a b ts us mI jP d1 d2 h g s hs e1 e2 ts' je hw gw=>intro _;simp;omega
 | call base ns ks ts d h t l r ht h1 h2 hl hr=>intro _;simp;omega
 | none base=>intro h;cases h
 | one base ns a ts rk d h=>intro h;cases h
 | and base ns ms ks b ts us rk d1 d2 h hk c hc g=>intro h;cases h
theorem EM {a:Int}(h:Sh false 0 ns [a] ts qH d)(ht:dC ns=true):gm ns=fJ ts:=by
 unfold gm;rw[ah ht];have e:=Yh h rfl;have:=((Yl h ns ns.length ⟨[],[],by simp,rfl⟩ (aj _)).1 rfl a rfl).1;injection e with e _;rw[e,Nat.zero_add]at this;exact this
theorem WJ {l:List Int}{f:Nat}(hb:Bytes l)(hl:gH l=some ts)(hp:lh f ts=some (.ok ns))(ht:dC ns=true) :
 (gm ns).length≤l.length∧∃vs g,gH (gm ns)=some vs∧lh g vs=some (.ok ns):=by
 obtain⟨us,qH,d,a,h1,h2,h3,h4,h5⟩:=MK hb hl hp;rw[EM h1 ht];exact⟨h4,h5⟩
theorem MO:∀(ns:List Nd)(st:List Int)(i:Nat),(∀k∈st,0≤k∧k<i)→oI st i ns=true→∀(j:Nat)(n:Nd),ns[j]? = some n→dN n=true∧∀k∈n.kids,0≤k∧k<((i+j:Nat):Int)
 | [],_,_,_,_,j,n,h=>by simp at h
 | m :: ns,st,i,hst,ht,j,n,h=>by
   rw[qc,bu,bu,bu,aA,aA]at ht;obtain⟨h1,h2,h3,h4⟩:=ht;cases j with
   | zero =>
     have:m=n:=by simpa using h
     subst this;refine⟨h1,fun k hk => ?_⟩;rw[← h3]at hk;exact hst k (List.mem_of_mem_drop hk)
   | succ j =>
     have g:=MO ns _ (i+1) (by
      intro k hk;rcases eG.1 hk with hk|hk
      · have:=hst k (List.mem_of_mem_take hk);omega
      · simp at hk;omega) h4 j n (by simpa using h)
     rw[show i+(j+1)=i+1+j by omega];exact g
theorem wQ (h:dC l=true)(h0:0≤i)(h1:i<l.length):dN (nodeAt l i)=true∧∀k∈(nodeAt l i).kids,0≤k∧k<i:=by
 have hi:i.toNat<l.length:=by omega
 have hn:l[i.toNat]? = some (nodeAt l i):=by
  unfold nodeAt;rw[iM,aX hi];rfl
 have:=MO l [] 0 (by intro k hk;simp at hk) h i.toNat _ hn;refine⟨this.1,fun k hk => ?_⟩;have:=this.2 k hk;omega
theorem ry {n:Nd}(h:dN n=true):(n.kind=8→n.kids.length=1)∧(9≤n.kind→n.kids.length=2)∧(1≤n.kind∧n.kind≤6→n.kids=[])∧1≤n.kind∧n.kind≤19∧iI n=true:=by
 unfold dN at h;rw[bu,Bool.or_eq_true,aA,aA]at h;obtain⟨h1,h2⟩:=h;unfold mW at h2;split at h2
 · refine⟨by omega,by omega,fun _ => ?_,by omega,by omega,h1⟩
   apply mK;omega
 · split at h2
   · exact⟨by omega,by omega,by omega,by omega,by omega,h1⟩
   · split at h2
     · exact⟨by omega,by omega,by omega,by omega,by omega,h1⟩
     · split at h2
       · exact⟨by omega,by omega,by omega,by omega,by omega,h1⟩
       · omega
theorem wu {n:Nd}{j:Nat}(h:j<n.kids.length):n.kids.getD j 0∈n.kids:=by
 rw[iM,aX h];exact List.getElem_mem h
theorem L8 (h:dC l=true):∀(m f g:Nat)(i:Int),0≤i→i<l.length→i.toNat<m→i<f→i<g→iw f l i=iw g l i
 | 0,_,_,_,_,_,hm,_,_=>by omega
 | m + 1, f,g,i,h0,h1,hm,hf,hg=>by
   obtain⟨f,rfl⟩:∃f',f=f'+1:=⟨f - 1,by omega⟩;obtain⟨g,rfl⟩:∃g',g=g'+1:=⟨g - 1,by omega⟩;obtain⟨hn,hk⟩:=wQ h h0 h1
   have ih:∀k∈(nodeAt l i).kids,iw f l k=iw g l k:=fun k jH=>by
    have:=hk k jH;exact L8 h m f g k this.1 (by omega) (by omega) (by omega) (by omega)
   obtain⟨a1,a2,_,_,_,_⟩:=ry hn;rw[vw f l i _ rfl,vw g l i _ rfl];by_cases k7:(nodeAt l i).kind=7
   · have:(nodeAt l i).kids.map (iw f l)=(nodeAt l i).kids.map (iw g l):=List.map_congr_left ih
     simp only[k7,this,reduceIte,Int.reduceEq]
   · by_cases k8:(nodeAt l i).kind=8
     · have e0:=ih _ (wu (j:=0) (by rw[a1 k8];omega))
       simp only[k8,e0,reduceIte,Int.reduceEq]
     · by_cases k9:9≤(nodeAt l i).kind
       · have e0:=ih _ (wu (j:=0) (by rw[a2 k9];omega))
         have e1:=ih _ (wu (j:=1) (by rw[a2 k9];omega));simp only[k7,if_false,e0,e1]
       · have:∀k:Int,k≤8→k≠7→k≠8→1≤k→k=1∨k=2∨k=3∨k=4∨k=5∨k=6:=by omega
         rcases this (nodeAt l i).kind (by omega) k7 k8 (by omega)with e|e|e|e|e|e <;> simp[e]
def jQ(l:List Nd)(i:Int):List Int:=iw l.length l i
theorem LW (h:dC l=true)(h0:0≤i)(h1:i<l.length)(n:Nd)(hn:nodeAt l i=n):jQ l i =
 if n.kind=1 then aW n.num.toNat
 else if n.kind=2 then 34 :: (eZ (sb n.text)++[34])
 else if n.kind=3 then (if n.num=1 then [84,82,85,69]else [70,65,76,83,69])
 else if n.kind=4 then [35,82,69,70,33]
 else if n.kind=5 then bC (sb n.ref.sh) n.ref.c n.ref.r n.ref.ac n.ref.ar
 else if n.kind=6 then bC (sb n.ref.sh) n.ref.c n.ref.r n.ref.ac n.ref.ar++58 :: bC (sb n.ag.sh) n.ag.c n.ag.r n.ag.ac n.ag.ar
 else if n.kind=7 then sb n.text++40 :: (oh (n.kids.map (jQ l))++[41])
 else if n.kind=8 then 45 :: jM (decide (bq (nodeAt l (n.kids.getD 0 0)).kind<4)) (jQ l (n.kids.getD 0 0))
 else jM (decide (bq (nodeAt l (n.kids.getD 0 0)).kind<bq n.kind)) (jQ l (n.kids.getD 0 0)) ++
  (wG (n.kind - 9).toNat++jM (decide (bq (nodeAt l (n.kids.getD 1 0)).kind≤bq n.kind)) (jQ l (n.kids.getD 1 0))):=by
 have:=L8 h (i.toNat+1) l.length (l.length+1) i h0 h1 (by omega) h1 (by omega);unfold jQ;rw[this,vw l.length l i n hn]
structure au where
 t:ByteArray
 node:Int
 least:Int
def au.plain(t:ByteArray):au:=⟨t,0,0⟩
def au.op(node least:Int):au:=⟨⟨#[]⟩,node,least⟩
def gP(l:List Nd)(p:au):List Int:=if p.t=⟨#[]⟩then jM (decide ((bq (nodeAt l p.node).kind:Int)+1<p.least)) (jQ l p.node)else sb p.t
def fU(l:List Nd)(p:au):Prop:=p.t=⟨#[]⟩→0≤p.node∧p.node<l.length
theorem wI (l:List Nd)(i m:Int):gP l (au.op i m)=jM (decide ((bq (nodeAt l i).kind:Int)+1<m)) (jQ l i):=by
 unfold gP;rw[ah (show(au.op i m).t=⟨#[]⟩from rfl)];rfl
theorem AB (l:List Nd)(t:ByteArray)(h:t≠⟨#[]⟩):gP l (au.plain t)=sb t:=by
 unfold gP;rw[af (show ¬ (au.plain t).t=⟨#[]⟩from h)];rfl
theorem fU.plain(l:List Nd)(t:ByteArray)(h:t≠⟨#[]⟩):fU l (au.plain t):=fun e=>absurd e h
theorem fU.op(h0:0≤i)(h1:i<l.length)(m:Int):fU l (au.op i m):=fun _=>⟨h0,h1⟩
def kH:List Int→List au
 | []=>[]
 | [a]=>[au.op a 1]
 | a :: b :: ks=>au.op a 1 :: au.plain ⟨#[44]⟩ :: kH (b :: ks)
theorem D6 (l:List Nd)(i:Int):jM (decide ((bq (nodeAt l i).kind:Int)+1<1)) (jQ l i)=jQ l i:=by
 rw[aK (by omega)];rfl
theorem G5 (l:List Nd):∀ks:List Int,(kH ks).flatMap (gP l)=oh (ks.map (jQ l))
 | []=>rfl
 | [a]=>by
   show gP l (au.op a 1)++[]=jQ l a;rw[bE,wI,D6]
 | a :: b :: ks=>by
   have ih:=G5 l (b :: ks);show gP l (au.op a 1)++(gP l (au.plain ⟨#[44]⟩)++(kH (b :: ks)).flatMap (gP l))=jQ l a++44 :: oh ((b :: ks).map (jQ l));rw[ih,wI,D6,AB l _ (by decide)];rfl
def bL (n:Nd):List Int × List au :=
 if n.kind=1 then (aW n.num.toNat,[])
 else if n.kind=2 then (34 :: (eZ (sb n.text)++[34]),[])
 else if n.kind=3 then ((if n.num=1 then [84,82,85,69]else [70,65,76,83,69]),[])
 else if n.kind=4 then ([35,82,69,70,33],[])
 else if n.kind=5 then (bC (sb n.ref.sh) n.ref.c n.ref.r n.ref.ac n.ref.ar,[])
 else if n.kind=6 then (bC (sb n.ref.sh) n.ref.c n.ref.r n.ref.ac n.ref.ar++58 :: bC (sb n.ag.sh) n.ag.c n.ag.r n.ag.ac n.ag.ar,[])
 else if n.kind=7 then (sb n.text++[40],kH n.kids++[au.plain ⟨#[41]⟩])
 else if n.kind=8 then ([45],[au.op (n.kids.getD 0 0) 5])
 else ([],[au.op (n.kids.getD 0 0) ((bq n.kind:Int)+1),au.plain (gN.getD (n.kind - 9).toNat ⟨#[]⟩),au.op (n.kids.getD 1 0) ((bq n.kind:Int)+2)])
theorem CU{p q:Prop} [Decidable p] [Decidable q] (h:p↔q):decide p=decide q:=by rw[decide_eq_decide];exact h
theorem KX:∀o:Nat,o<11→gN.getD o ⟨#[]⟩≠⟨#[]⟩:=by decide
theorem YL (h:dC l=true)(h0:0≤i)(h1:i<l.length)(n:Nd)(hn:nodeAt l i=n):jQ l i=(bL n).1++(bL n).2.flatMap (gP l):=by
 obtain⟨hnb, -⟩:=wQ h h0 h1;rw[hn]at hnb;obtain⟨-, -, -,b1,b2, -⟩:=ry hnb;rw[LW h h0 h1 n hn];unfold bL;split
 · simp
 split
 · simp
 split
 · simp
 split
 · simp
 split
 · simp
 split
 · simp
 split
 · rw[List.flatMap_append,G5,fD,List.flatMap_nil,AB l _ (by decide)]
   simp only[bD,bM,eY,bE];rfl
 split
 · rw[fD,List.flatMap_nil,wI,bE,CU (show(bq (nodeAt l (n.kids.getD 0 0)).kind<4↔(bq (nodeAt l (n.kids.getD 0 0)).kind:Int)+1<5)by omega)]
   rfl
 · have ho:(n.kind - 9).toNat<11:=by omega
   rw [fD,fD,fD,List.flatMap_nil,wI,wI,AB l _ (KX _ ho),(KY _ ho).2,bE,eY,
    CU (show(bq (nodeAt l (n.kids.getD 0 0)).kind<bq n.kind↔(bq (nodeAt l (n.kids.getD 0 0)).kind:Int)+1<(bq n.kind:Int)+1)by omega),
    CU (show(bq (nodeAt l (n.kids.getD 1 0)).kind≤bq n.kind↔(bq (nodeAt l (n.kids.getD 1 0)).kind:Int)+1<(bq n.kind:Int)+2)by omega)]
theorem G8 :∀ks:List Int,(∀k∈ks,0≤k∧k<(l.length:Int))→∀p∈kH ks,fU l p
 | [],_,p,hp=>by simp[kH]at hp
 | [a],h,p,hp=>by
   simp[kH]at hp;subst hp;exact fU.op (h a (by simp)).1 (h a (by simp)).2 1
 | a :: b :: ks,h,p,hp=>by
   simp only[kH,gp]at hp;rcases hp with rfl|rfl|hp
   · exact fU.op (h a (by simp)).1 (h a (by simp)).2 1
   · exact fU.plain l _ (by decide)
   · exact G8 (b :: ks) (fun k hk=>h k (List.mem_cons_of_mem _ hk)) p hp
theorem YM (h:dC l=true)(h0:0≤i)(h1:i<l.length)(n:Nd)(hn:nodeAt l i=n):∀p∈(bL n).2,fU l p:=by
 obtain⟨hnb,hk⟩:=wQ h h0 h1;rw[hn]at hnb hk;obtain⟨a1,a2, -,b1,b2, -⟩:=ry hnb;have hkl:∀k∈n.kids,0≤k∧k<(l.length:Int):=fun k jH=>by have:=hk k jH;omega
 intro p hp;unfold bL at hp;split at hp
 · simp at hp
 split at hp
 · simp at hp
 split at hp
 · simp at hp
 split at hp
 · simp at hp
 split at hp
 · simp at hp
 split at hp
 · simp at hp
 split at hp
 · rcases eG.1 hp with hp|hp
   · exact G8 _ hkl p hp
   · rw[gX.1 hp];exact fU.plain l _ (by decide)
 split at hp
 · rename_i k8
   rw[gX.1 hp];have:=hkl _ (wu (n:=n) (j:=0) (by rw[a1 k8];omega));exact fU.op this.1 this.2 5
 · have k9:9≤n.kind:=by omega
   have g0:=hkl _ (wu (n:=n) (j:=0) (by rw[a2 k9];omega));have g1:=hkl _ (wu (n:=n) (j:=1) (by rw[a2 k9];omega));simp only[gp,List.not_mem_nil,or_false]at hp;rcases hp with rfl|rfl|rfl
   · exact fU.op g0.1 g0.2 _
   · exact fU.plain l _ (KX _ (by omega))
   · exact fU.op g1.1 g1.2 _
def jw (l:List Nd)(p:au):List Int × List au :=
 if p.t=⟨#[]⟩then (if (bq (nodeAt l p.node).kind:Int)+1<p.least then (40 :: (bL (nodeAt l p.node)).1,(bL (nodeAt l p.node)).2++[au.plain ⟨#[41]⟩])else bL (nodeAt l p.node))else (sb p.t,[])
theorem Mr (h:dC l=true)(p:au)(hp:fU l p):gP l p=(jw l p).1++(jw l p).2.flatMap (gP l):=by
 rw[show gP l p=if p.t=⟨#[]⟩then jM (decide ((bq (nodeAt l p.node).kind:Int)+1<p.least)) (jQ l p.node)else sb p.t from rfl];unfold jw;by_cases ht:p.t=⟨#[]⟩
 · obtain ⟨h0,h1⟩:=hp ht
   rw[ah ht,ah ht,YL h h0 h1 _ rfl];by_cases hr:(bq (nodeAt l p.node).kind:Int)+1<p.least
   · rw[ah hr,aL hr,List.flatMap_append,fD,List.flatMap_nil,AB l _ (by decide)]
     show 40 :: (((bL (nodeAt l p.node)).1++(bL (nodeAt l p.node)).2.flatMap (gP l))++[41])=_;simp only[bD,bM,bE];rfl
   · rw[af hr,aK hr];rfl
 · rw[af ht,af ht];simp
theorem EX (h:dC l=true)(p:au)(hp:fU l p):∀q∈(jw l p).2,fU l q:=by
 unfold jw;by_cases ht:p.t=⟨#[]⟩
 · obtain ⟨h0,h1⟩:=hp ht
   rw[ah ht];have:=YM h h0 h1 _ rfl;by_cases hr:(bq (nodeAt l p.node).kind:Int)+1<p.least
   · rw[ah hr]
     intro q hq;rcases eG.1 hq with hq|hq
     · exact this q hq
     · rw[gX.1 hq];exact fU.plain l _ (by decide)
   · rw[af hr];exact this
 · rw[af ht];intro q hq;simp at hq
theorem MJ {l:List Int}(aV:∀y∈x :: l,isWord y=true)(hx:isLet x=true∨x=36):cK (x :: l++[32])=(match gQ (strOfNums (x :: l))with
 | some d=>some ({ ai.zero with kind:=4,sh:=d.sh,c:=d.c,r:=d.r,ac:=d.ac,ar:=d.ar },(x :: l).length)
 | none=>if jG (x :: l)=true then some ({ ai.zero with kind:=3,text:=strOfNums (x :: l) },(x :: l).length)else none):=by
 have h1:¬ isNum x=true:=by
  rcases hx with hx|hx
  · unfold isLet at hx;unfold isNum;rw[aA]at hx ⊢;omega
  · subst hx;decide
 have h2:¬ x=34∧¬ x=35:=by
  rcases hx with hx|hx
  · unfold isLet at hx;rw[aA]at hx;omega
  · omega
 have ht:(x :: (l++[32])).takeWhile isWord=x :: l:=qb isWord (x :: l) [32] aV (fun y hy=>by simp at hy;subst hy;decide);rw[bM,nD,af h1,af h2.1,af h2.2,ah hx];unfold lq;rw[ht];rfl
def yL(n:Int):ai:={ ai.zero with kind:=1,num:=n }
def yN(s:ByteArray):ai:={ ai.zero with kind:=2,text:=s }
def qL(s:ByteArray):ai:={ ai.zero with kind:=3,text:=s }
def rX(r:bJ):ai:={ ai.zero with kind:=4,sh:=r.sh,c:=r.c,r:=r.r,ac:=r.ac,ar:=r.ar }
def yM(s:ByteArray):ai:={ ai.zero with kind:=5,text:=s }
def yK:ai:={ ai.zero with kind:=6 }
theorem Zl {n:Int}(h0:0≤n)(h:n≤9223372036854775807):Tok (yL n):=by
 have e:bQ (yL n)=aW n.toNat:=rfl;refine⟨(by simp[yL]), ?_,by rw[e];exact Ht _⟩;have:=Zj n.toNat (by omega) [32] (fun x hx=>by simp at hx;subst hx;decide);rw[e,this,Int.toNat_of_nonneg h0];rfl
theorem CG:∀l:List Int,Bytes l→Bytes (eZ l)
 | [],_=>Bytes.nil
 | x :: l,h=>by
   have ih:=CG l (fun y hy=>h y (by simp[hy]));show Bytes ((if x=34 then [34,34]else [x])++eZ l);refine Bytes.append ?_ ih;split
   · intro y hy;simp at hy;omega
   · intro y hy;simp at hy;subst hy;exact h y (by simp)
theorem Zn (h:kD (sb s)=true):Tok (yN s):=by
 have e:bQ (yN s)=34 :: (eZ (sb s)++[34]):=rfl;have hb:Bytes [34]:=by intro x hx;simp at hx;omega
 refine⟨(by simp[yN]), ?_,by rw[e];exact Bytes.append (a:=[34]) hb ((CG _ (p9 s)).append hb)⟩;unfold kD at h;have:=Ey (sb s) [32] (of_decide_eq_true h) (fun x hx=>by simp at hx;omega);rw[e,bM,nD,af (by decide),ah rfl];unfold jr;rw[bD,nI,this];simp only[gq,aI,aJ,oH,aN,ax,fO]
 first
  | rfl
  | exact⟨rfl,trivial⟩
theorem Ff (h:jG (sb s)=true)(hr:(gQ s).isNone=true):Tok (qL s):=by
 have e:bQ (qL s)=sb s:=rfl;refine⟨(by simp[qL]), ?_,by rw[e];exact p9 s⟩;have hc:=h;unfold jG at hc;rw[bu,bu,aA,aA]at hc;obtain⟨c1,c2,c3⟩:=hc;have hs:=oH s;rw[e];cases hq:sb s with
 | nil=>rw[hq]at c2;simp at c2
 | cons x l =>
   rw[hq]at c1 c3 hs h
   have aV:∀y∈x :: l,isWord y=true:=by
    intro y hy;have:=c1 y hy;rw[Bool.or_eq_true]at this;rcases this with g|g
    · exact Na g
    · exact Fv g
   have hx:isLet x=true:=by
    have hx:aP x=true:=by simpa using c3
    unfold aP at hx;unfold isLet;rw[aA]at hx ⊢;omega
   rw[MJ aV (.inl hx),hs];cases hd:gQ s with
   | some d=>rw[hd]at hr;cases hr
   | none=>simp only;rw[ah h];rfl
theorem Fg {r:bJ}(h:eu r=true):Tok (rX r):=by
 have e:bQ (rX r)=bC (sb r.sh) r.c r.r r.ac r.ar:=rfl;refine⟨(by simp[rX]), ?_,by rw[e];exact vU _ _ _ _ _⟩;obtain⟨x,l,hd,hx⟩:=Y7 (sb r.sh) r.c r.r r.ac r.ar h;have aV:=Z7 (sb r.sh) r.c r.r r.ac r.ar h;obtain⟨d,hr,e1,e2,e3,e4,e5⟩:=Xj r.sh r.c r.r r.ac r.ar h;rw[e];rw[hd]at aV hr ⊢;rw[MJ aV hx,hr];simp only[e1,e2,e3,e4,e5];rfl
def Bc (t:ai):Bool:=match cK (bQ t++[32])with
 | some (u,n)=>decide (n=(bQ t).length)&&(decide (u.kind=t.kind∧u.text=t.text∧u.num=t.num∧u.sh=t.sh∧u.c=t.c∧u.r=t.r∧u.pos=0)&&(u.ac == t.ac&&u.ar == t.ar))
 | none=>false
theorem MH (h:Bc t=true)(hk:t.kind≠0)(hb:Bytes (bQ t)):Tok t:=by
 refine⟨hk, ?_,hb⟩;unfold Bc at h;cases hq:cK (bQ t++[32])with
 | none=>rw[hq]at h;cases h
 | some q =>
   obtain⟨u,n⟩:=q;rw[hq]at h;simp only[bu,aA,bI]at h;obtain⟨h1,⟨g1,g2,g3,g4,g5,g6,g7⟩,g8,g9⟩:=h;rw[h1]
   have:u=t.goto 0:=by
    cases u;cases t;simp only[ai.goto]at *;subst g1 g2 g3 g4 g5 g6 g7 g8 g9;rfl
   rw[this]
def qI:List ByteArray:=[⟨#[40]⟩,⟨#[41]⟩,⟨#[44]⟩,⟨#[58]⟩]++gN
theorem YD:qI.all (fun s=>Bc (yM s)&&(bQ (yM s)).all fun x=>decide (0≤x∧x≤255))=true:=by decide +kernel
theorem QI:(Bc yK&&(bQ yK).all fun x=>decide (0≤x∧x≤255))=true:=by decide +kernel
theorem tV (h:s∈qI):Tok (yM s)∧dD s (yM s):=by
 have:=List.all_eq_true.1 YD s h;rw[bu]at this;refine⟨MH this.1 (by decide +revert) ?_,rfl,rfl⟩;intro x hx
 simpa using List.all_eq_true.1 this.2 x hx
theorem Zi:Tok yK:=by
 have:=QI;rw[bu]at this;refine⟨by decide,(MH this.1 (by decide) ?_).2.1, ?_⟩
 all_goals
  intro x hx
  simpa using List.all_eq_true.1 this.2 x hx
theorem KU {r:bJ}(h:jo r=true):r=bJ.zero:=by
 unfold jo at h;rw[bu,aA,bu]at h;obtain⟨⟨h1,h2,h3⟩,h4,h5⟩:=h;cases r with
 | mk sh c r ac ar =>
   simp only at h1 h2 h3 h4 h5;subst h1 h2 h3;cases ac <;> cases ar <;> simp at h4 h5
   rfl
theorem Ke {n:Nd}(h:iI n=true):(n.kind=1∨n.kind=3∨n.num=0)∧(n.kind=2∨n.kind=7∨n.text=⟨#[]⟩)∧(n.kind=5∨n.kind=6∨n.ref=bJ.zero)∧(n.kind=6∨n.ag=bJ.zero) ∧
 (if n.kind=1 then decide (0≤n.num)
   else if n.kind=3 then decide (n.num=0∨n.num=1)
   else if n.kind=2 then kD (sb n.text)
   else if n.kind=7 then jF n.text
   else if n.kind=5 then eu n.ref
   else if n.kind=6 then eu n.ref&&(eu n.ag&&gU n.ref n.ag)
   else true)=true:=by
 unfold iI at h;by_cases c:(n.kind≠1∧n.kind≠3∧n.num≠0)∨(n.kind≠2∧n.kind≠7∧n.text≠⟨#[]⟩)∨(n.kind≠5∧n.kind≠6∧jo n.ref=false)∨(n.kind≠6∧jo n.ag=false)
 · rw[ah c]at h;cases h
 · rw [af c]at h
   refine⟨?_, ?_, ?_, ?_,h⟩
   · apply Decidable.byContradiction;intro d;exact c (.inl ⟨fun e=>d (.inl e),fun e=>d (.inr (.inl e)),fun e=>d (.inr (.inr e))⟩)
   · by_cases d1:n.kind=2
     · exact .inl d1
     · by_cases d2:n.kind=7
       · exact .inr (.inl d2)
       · by_cases d3:n.text=⟨#[]⟩
         · exact .inr (.inr d3)
         · exact absurd (.inr (.inl ⟨d1,d2,d3⟩)) c
   · by_cases d1:n.kind=5
     · exact .inl d1
     · by_cases d2:n.kind=6
       · exact .inr (.inl d2)
       · cases d3:jo n.ref with
         | true=>exact .inr (.inr (KU d3))
         | false=>exact absurd (.inr (.inr (.inl ⟨d1,d2,d3⟩))) c
   · by_cases d2:n.kind=6
     · exact .inl d2
     · cases d3:jo n.ag with
       | true=>exact .inr (KU d3)
       | false=>exact absurd (.inr (.inr (.inr ⟨d2,d3⟩))) c
theorem Ut {n:Nd}(h:iI n=true)(h1:1≤n.kind)(h2:n.kind≤6)(hk:n.kids=[])(hm:n.num≤9223372036854775807):∃ts,lH ts n∧∀t∈ts,Tok t:=by
 obtain⟨f1,f2,f3,f4,f5⟩:=Ke h;cases n with
 | mk kind num text ref ag kids =>
   simp only at f1 f2 f3 f4 f5 h1 h2 hk hm;subst hk;by_cases c1:kind=1
   · subst c1
     rw[ah rfl]at f5;obtain rfl:=(f2.resolve_left (by omega)).resolve_left (by omega);obtain rfl:=(f3.resolve_left (by omega)).resolve_left (by omega);obtain rfl:=f4.resolve_left (by omega);exact⟨[yL num],.num (yL num) rfl,by intro t ht;simp at ht;subst ht;exact Zl (of_decide_eq_true f5) hm⟩
   · rw [af c1]at f5
     by_cases c3:kind=3
     · subst c3
       rw[ah rfl]at f5;obtain rfl:=(f2.resolve_left (by omega)).resolve_left (by omega);obtain rfl:=(f3.resolve_left (by omega)).resolve_left (by omega);obtain rfl:=f4.resolve_left (by omega)
       have hw:∀s:ByteArray,s=⟨#[84,82,85,69]⟩∨s=⟨#[70,65,76,83,69]⟩→Tok (qL s):=by
        intro s hs;rcases hs with rfl|rfl
        · exact Ff (by decide +kernel) (by decide +kernel)
        · exact Ff (by decide +kernel) (by decide +kernel)
       rcases of_decide_eq_true f5 with rfl|rfl
       · exact⟨[qL ⟨#[70,65,76,83,69]⟩],.no (qL _) rfl rfl,by intro t ht;simp at ht;subst ht;exact hw _ (.inr rfl)⟩
       · exact⟨[qL ⟨#[84,82,85,69]⟩],.yes (qL _) rfl rfl,by intro t ht;simp at ht;subst ht;exact hw _ (.inl rfl)⟩
     · rw [af c3]at f5
       obtain rfl:=(f1.resolve_left c1).resolve_left c3;by_cases c2:kind=2
       · subst c2
         rw[ah rfl]at f5;obtain rfl:=(f3.resolve_left (by omega)).resolve_left (by omega);obtain rfl:=f4.resolve_left (by omega);exact⟨[yN text],.text (yN text) rfl,by intro t ht;simp at ht;subst ht;exact Zn f5⟩
       · rw [af c2,af (by omega)]at f5
         obtain rfl:=(f2.resolve_left c2).resolve_left (by omega);by_cases c5:kind=5
         · subst c5
           rw[ah rfl]at f5;obtain rfl:=f4.resolve_left (by omega);exact⟨[rX ref],.ref (rX ref) rfl,by intro t ht;simp at ht;subst ht;exact Fg f5⟩
         · rw [af c5]at f5
           by_cases c6:kind=6
           · subst c6
             rw[ah rfl,bu,bu]at f5;obtain⟨g,gs⟩:=tV (s:=⟨#[58]⟩) (by simp[qI,gN]);refine⟨[rX ref,yM ⟨#[58]⟩,rX ag],.range (rX ref) _ (rX ag) rfl gs rfl f5.2.2, ?_⟩;intro t ht;simp at ht;rcases ht with rfl|rfl|rfl
             · exact Fg f5.1
             · exact g
             · exact Fg f5.2.1
           · obtain rfl:kind=4:=by omega
             obtain rfl:=(f3.resolve_left (by omega)).resolve_left (by omega);obtain rfl:=f4.resolve_left (by omega);exact⟨[yK],.dead yK rfl,by intro t ht;simp at ht;subst ht;exact Zi⟩
theorem Fy (n rk d:Nat)(ts:List ai)(h:∀t∈ts,Tok t):∃d' ts',Wr n rk d ts d' ts'∧∀t∈ts',Tok t:=by
 by_cases c:n≤rk
 · exact⟨d,ts,.inl ⟨c,rfl,rfl⟩,h⟩
 · obtain ⟨g1,s1⟩:=tV (s:=⟨#[40]⟩) (by simp[qI,gN])
   obtain⟨g2,s2⟩:=tV (s:=⟨#[41]⟩) (by simp[qI,gN]);refine⟨d+1,_,.inr ⟨by omega,rfl,_,_,s1,s2,rfl⟩, ?_⟩;intro t ht;rcases gp.1 ht with rfl|ht
   · exact g1
   · rcases eG.1 ht with ht|ht
     · exact h t ht
     · simp at ht;subst ht;exact g2
inductive FS:Nat→List Nd→List Int→Prop
 | nil:FS 0 [] []
 | snoc (i:Nat)(done:List Nd)(st:List Int)(h:FS i done st)(ns:List Nd)(a:Int)(ts:List ai)(rk d:Nat)(g:Sh false i ns [a] ts rk d)(ht:∀t∈ts,Tok t):FS (i+ns.length) (done++ns) (st++[a])
theorem FS.last {i:Nat}{all:List Nd}{st:List Int}{a:Int}(h:FS i all (st++[a])):∃j done ns ts rk d,FS j done st∧all=done++ns∧i=j+ns.length∧Sh false j ns [a] ts rk d∧∀t∈ts,Tok t:=by
 generalize e:st++[a]=st' at h;cases h with
 | nil=>simp at e
 | snoc j done st0 h ns a0 ts rk d g ht =>
   obtain⟨rfl,e2⟩:=List.append_inj' e rfl;injection e2 with e2 _;subst e2;exact⟨j,done,ns,ts,rk,d,h,rfl,rfl,g,ht⟩
theorem FS.Vs {i:Nat}{done:List Nd}{st:List Int}(h:FS i done st)(e:st=[]):done=[]∧i=0:=by
 cases h with
 | nil=>exact⟨rfl,rfl⟩
 | snoc=>simp at e
theorem Yj (h:Sh true base ns ks ts qH d)(e:ks=[]):ns=[]∧ts=[]:=by
 cases h with
 | none=>exact⟨rfl,rfl⟩
 | one=>cases e
 | and=>simp at e
theorem FS.many:∀(m:Nat)(ks:List Int),ks.length=m→∀(i:Nat)(all:List Nd)(st:List Int),FS i all (st++ks)→∃j done ns ts d,FS j done st∧all=done++ns∧i=j+ns.length∧Sh true j ns ks ts 0 d∧∀t∈ts,Tok t
 | 0,ks,hk,i,all,st,h=>by
   obtain rfl:=mK hk;rw[bE]at h;exact⟨i,all,[],[],0,h,by simp,by simp,.none i,by simp⟩
 | m + 1,ks,hk,i,all,st,h=>by
   obtain⟨ks',b,rfl⟩:∃ks' b,ks=ks'++[b]:=⟨ks.dropLast,ks.getLast (by rintro rfl;simp at hk),(List.dropLast_concat_getLast _).symm⟩;rw[← bD]at h;obtain⟨j,done,ns,ts,rk,d,h1,rfl,rfl,h2,h3⟩:=h.last;obtain⟨j',qx,ns',ts',d',g1,rfl,rfl,g2,g3⟩:=FS.many m ks' (by simpa using hk) j done st h1;by_cases c:ks'=[]
   · subst c
     obtain⟨rfl,rfl⟩:=Yj g2 rfl;exact⟨j',qx,ns,ts,d,g1,by simp,by simp,.one j' ns b ts rk d (by simpa using h2),h3⟩
   · obtain ⟨gc,sc⟩:=tV (s:=⟨#[44]⟩) (by simp[qI,gN])
     refine⟨j',qx,ns'++ns,_,_,g1,by rw[bD],by rw[ax,Nat.add_assoc],.and j' ns' ns ks' b ts' ts rk d' d g2 c _ sc h2, ?_⟩;intro t ht;rcases eG.1 ht with ht|ht
     · exact g3 t ht
     · rcases gp.1 ht with rfl|ht
       · exact gc
       · exact h3 t ht
theorem MN:∀(ns:List Nd)(i:Nat)(done:List Nd)(st:List Int),FS i done st→oI st i ns=true→(∀n∈ns,n.num≤9223372036854775807)→∃a,FS (i+ns.length) (done++ns) [a]
 | [],i,done,st,h,ht,_=>by
   have:st.length=1:=of_decide_eq_true ht
   match st,this with
   | [a],_=>exact⟨a,by simpa using h⟩
 | n :: ns, i,done,st,h,ht,hm=>by
   rw[qc,bu,bu,bu,aA,aA]at ht;obtain⟨h1,h2,h3,h4⟩:=ht;have hst:st=st.take (st.length - n.kids.length)++n.kids:=by conv=>lhs;rw[← List.take_append_drop (st.length - n.kids.length) st,h3]
   generalize st.take (st.length - n.kids.length)=st0 at hst h4;subst hst;unfold dN at h1;rw[bu,Bool.or_eq_true,aA,aA]at h1;obtain⟨hl,ha⟩:=h1
   have hfs : FS (i+1) (done++[n]) (st0++[(i:Int)]):=by
    by_cases c1:1≤n.kind∧n.kind≤6
    · have hk:n.kids=[]:=by
       unfold mW at ha;rw[ah c1]at ha;exact mK (by omega)
      rw[hk,bE]at h;obtain⟨ts,g1,g2⟩:=Ut hl c1.1 c1.2 hk (hm n (by simp));exact .snoc i done st0 h [n] _ ts 5 0 (.leaf i ts n g1) g2
    · obtain ⟨f1,f2,f3,f4,f5⟩:=Ke hl
      have e1:n.num=0:=(f1.resolve_left (by omega)).resolve_left (by omega);have e3:n.ref=bJ.zero:=(f3.resolve_left (by omega)).resolve_left (by omega);have e4:n.ag=bJ.zero:=f4.resolve_left (by omega);rw[af (by omega),af (by omega),af (by omega)]at f5;by_cases c7:n.kind=7
      · rw [ah c7]at f5
        unfold jF at f5;rw[bu,bu,bu,aA,aA]at f5;obtain⟨j,qx,ms,ts,d,g1,rfl,rfl,g2,g3⟩:=FS.many _ n.kids rfl i done st0 h;obtain⟨gl,sl⟩:=tV (s:=⟨#[40]⟩) (by simp[qI,gN]);obtain⟨gr,sr⟩:=tV (s:=⟨#[41]⟩) (by simp[qI,gN]);have gn:=Ff f5.1 f5.2.1
        have hn:n={ Nd.zero with kind:=7,text:=(qL n.text).text,kids:=n.kids }:=by
         cases n;simp only at e1 e3 e4 c7;subst e1 e3 e4 c7;rfl
        have hsh:=Sh.call j ms n.kids ts d g2 (qL n.text) _ _ rfl f5.2.2.1 f5.2.2.2 sl sr;rw[← hn]at hsh
        have := FS.snoc j qx st0 g1 (ms++[n]) _ _ _ _ hsh (by
         intro t ht;rcases gp.1 ht with rfl|ht
         · exact gn
         · rcases gp.1 ht with rfl|ht
           · exact gl
           · rcases eG.1 ht with ht|ht
             · exact g3 t ht
             · simp at ht;subst ht;exact gr)
        rw[ax,gu, ← Nat.add_assoc, ← bD]at this;exact this
      · have e2:n.text=⟨#[]⟩:=(f2.resolve_left (by omega)).resolve_left c7
        by_cases c8:n.kind=8
        · have hk:n.kids.length=1:=by
           unfold mW at ha;rw[af c1,af c7,ah c8]at ha;omega
          obtain ⟨b,hb⟩:∃b,n.kids=[b]:=by
           match hq:n.kids,hk with
           | [b],_=>exact⟨b,rfl⟩
          rw[hb]at h;obtain⟨j,qx,ms,ts,mH,d,g1,rfl,rfl,g2,g3⟩:=h.last;obtain⟨d',ts',hw,g4⟩:=Fy 4 mH d ts g3;obtain⟨C9,sm⟩:=tV (s:=⟨#[45]⟩) (by simp[qI,gN])
          have hn:n={ Nd.zero with kind:=8,kids:=[b] }:=by
           cases n;simp only at e1 e2 e3 e4 c8 hb;subst e1 e2 e3 e4 c8 hb;rfl
          have hsh:=Sh.neg j ms b ts mH d g2 _ sm d' ts' hw;rw[← hn]at hsh
          have:=FS.snoc j qx st0 g1 (ms++[n]) _ _ _ _ hsh (by
           intro t ht;rcases gp.1 ht with rfl|ht
           · exact C9
           · exact g4 t ht)
          rw[ax,gu, ← Nat.add_assoc, ← bD]at this;exact this
        · have hk:n.kids.length=2∧9≤n.kind∧n.kind≤19:=by
           unfold mW at ha;rw[af c1,af c7,af c8]at ha;by_cases c9:9≤n.kind∧n.kind≤19
           · rw[ah c9]at ha;omega
           · rw[af c9]at ha;omega
          obtain ⟨b,b',hb⟩:∃b b',n.kids=[b,b']:=by
           match hq:n.kids,hk.1 with
           | [b,b'],_=>exact⟨b,b',rfl⟩
          rw[hb,show st0++[b,b']=(st0++[b])++[b']by simp]at h;obtain⟨j2,aar,tJ,MQ,jP,d2,k1,rfl,rfl,k2,k3⟩:=h.last;obtain⟨j,qx,ms,ts,mH,d,g1,rfl,rfl,g2,g3⟩:=k1.last;obtain⟨o,ho,hko⟩:∃o:Nat,o<11∧n.kind=9+(o:Int):=⟨(n.kind - 9).toNat,by omega,by omega⟩;obtain⟨x1,ts',hw,g4⟩:=Fy (rk o) mH d ts g3;obtain⟨x2,Zx,hw2,k4⟩:=Fy (rk o+1) jP d2 MQ k3
          have hin:gN.getD o ⟨#[]⟩∈qI:=by
           have hlen:o<gN.length:=ho;rw[iM,aX hlen,Option.getD_some];exact List.mem_append_right _ (List.getElem_mem _)
          obtain⟨C9,sm⟩:=tV hin
          have hn:n={ Nd.zero with kind:=9+(o:Int),kids:=[b,b'] }:=by
           cases n;simp only at e1 e2 e3 e4 hko hb;subst e1 e2 e3 e4 hko hb;rfl
          have hsh:=Sh.op j o ho ms tJ b b' ts MQ mH jP d d2 g2 k2 _ sm x1 x2 ts' Zx hw hw2;rw[← hn]at hsh
          have:=FS.snoc j qx st0 g1 (ms++(tJ++[n])) _ _ _ _ hsh (by
           intro t ht;rcases eG.1 ht with ht|ht
           · exact g4 t ht
           · rcases gp.1 ht with rfl|ht
             · exact C9
             · exact k4 t ht)
          have e5:j+(ms++(tJ++[n])).length=j+ms.length+tJ.length+1:=by simp;omega
          have e6:qx++(ms++(tJ++[n]))=qx++ms++tJ++[n]:=by simp
          have e7:j+(ms.length+tJ.length)=j+ms.length+tJ.length:=by omega
          rw[e5,e6,e7]at this;exact this
   obtain⟨a,ha'⟩:=MN ns (i+1) (done++[n]) _ hfs h4 (fun m hm'=>hm m (by simp[hm']));refine⟨a, ?_⟩;rw[bD,nI]at ha';rw[aN,show i+(ns.length+1)=i+1+ns.length by omega];exact ha'
theorem Zt (h:dC ns=true)(hm:∀n∈ns,n.num≤9223372036854775807):∃a ts rk d,Sh false 0 ns [a] ts rk d∧∀t∈ts,Tok t:=by
 obtain⟨a,ha⟩:=MN ns 0 [] [] .nil h hm;rw[eY]at ha;obtain⟨j,done,ms,ts,rk,d,h1,h2,h3,h4,h5⟩:=FS.last (st:=[]) ha;obtain⟨rfl,rfl⟩:=h1.Vs rfl;rw[eY]at h2;subst h2;exact⟨a,ts,rk,d,h4,h5⟩
theorem Zr (h:dC ns=true)(hm:∀n∈ns,n.num≤9223372036854775807):gm ns≠[]:=by
 obtain⟨a,ts,rk,d,h1,h2⟩:=Zt h hm;rw[EM h1 h];obtain⟨_,⟨t,l,rfl,_⟩,_⟩:=(LX h1).1 rfl;obtain⟨x,k,e,_⟩:=Fe (h2 t (by simp));rw[iK,e];simp
theorem ME {sh:List Int}{c r:Int}{ac ar:Bool}(h:ek sh c r=true):bC sh c r ac ar≠[]:=by
 unfold bC;rw[ah h];intro e;exact nT _ (List.append_eq_nil_iff.1 e).2
theorem Tt {b:Bool}{t:List Int}(h:t≠[]):jM b t≠[]:=by
 unfold jM;split
 · simp
 · exact h
theorem LQ {t:ByteArray}(h:t≠⟨#[]⟩):sb t≠[]:=by
 intro e;apply h;have h1:=bn t;rw[e]at h1;have h1:t.size=0:=h1.symm;cases t with
 | mk d =>
   have:d=#[]:=Array.eq_empty_of_size_eq_zero h1;rw[this]
theorem VS:∀o:Nat,o<11→wG o≠[]:=by decide
theorem Kh {n:Nd}(h:iI n=true)(hk:n.kind=5):eu n.ref=true:=by
 unfold iI at h;split at h
 · cases h
 · simpa [hk]using h
theorem Yd (h:dC l=true)(h0:0≤i)(h1:i<l.length):jQ l i≠[]:=by
 obtain⟨hnb, -⟩:=wQ h h0 h1;obtain⟨-, -, -,b1,b2,hl⟩:=ry hnb;rw[LW h h0 h1 _ rfl];split
 · exact nT _
 split
 · simp
 split
 · split <;> simp
 split
 · simp
 split
 · exact ME (Kh hl ‹_›)
 split
 · simp
 split
 · simp
 split
 · simp
 · have:=VS (((nodeAt l i).kind - 9).toNat) (by omega)
   simp[this]
theorem Lh (h:dC l=true)(p:au)(hp:fU l p):gP l p≠[]:=by
 unfold gP;by_cases ht:p.t=⟨#[]⟩
 · obtain⟨h0,h1⟩:=hp ht
   rw[ah ht];exact Tt (Yd h h0 h1)
 · rw[af ht];exact LQ ht
theorem zX (h:dC l=true):∀ps:List au,(∀p∈ps,fU l p)→ps.length≤(ps.flatMap (gP l)).length
 | [],_=>aj _
 | p :: ps,hp=>by
   have ih:=zX h ps fun q hq=>hp q (List.mem_cons_of_mem _ hq)
   have h1:=List.length_pos_iff.2 (Lh h p (hp p (by simp)));rw[fD,ax,aN];omega
theorem CV:∀(k u:Nat),u<10 ^ (k+1)→(aW u).length≤k+1
 | 0,u,h=>by rw[nU u (by simpa using h)];simp
 | k + 1,u,h=>by
   by_cases h1:u<10
   · rw[nU u h1];simp
   · rw[rC u h1,ax,gu]
     have:=CV k (u / 10) (by rw[Nat.pow_succ]at h;omega);omega
theorem Qu (n:Int):(bH n).length≤2:=by
 unfold bH;split
 · simp
 · split <;> simp
theorem Fa (sh:List Int)(c r:Int)(ac ar:Bool):(bC sh c r ac ar).length≤sh.length+8:=by
 unfold bC;split
 · rename_i h
   unfold ek at h;rw[bu,aA]at h;have h1:=CV 2 (r+1).toNat (by omega);have h2:=Qu c;have h3:(if sh=[]then ([]:List Int)else sh++[33]).length≤sh.length+1:=by split <;> simp
   have h4:∀b:Bool,(if b=true then [(36:Int)]else []).length≤1:=by intro b;split <;> simp
   have h5:=h4 ac;have h6:=h4 ar;simp only[ax];omega
 · simp
theorem Io:∀l:List Int,(eZ l).length≤2*l.length
 | []=>aj _
 | x :: l=>by
   have:=Io l;show((if x=34 then [34,34]else [x])++eZ l).length≤_;rw[ax,aN];have:(if x=34 then [34,34]else [x]:List Int).length≤2:=by split <;> simp
   omega
theorem Hq:∃j,Tryz.prog.info? 137=some j∧j.size=2:=by
 have h:(Tryz.prog.info? 137).map (·.size)=some 2:=by kernel_rfl
 obtain⟨j,h1,h2⟩:=Option.map_eq_some_iff.1 h;exact⟨j,h1,h2⟩
structure dR (w w':World)(b:Nat):Prop where
 os:w'.os=w.os
 tape:w'.tape=w.tape
 output:w'.output=w.output
 size:w.heap.size≤w'.heap.size
 block:∀k,k<w.heap.size→k≠b→(k<b∨∀cur fr,w.heap[k]? ≠ some (.cells cur 5 fr))→w'.heap[k]? = w.heap[k]?
theorem dR.refl(w:World)(b:Nat):dR w w b:=⟨rfl,rfl,rfl,aj _,fun _ _ _ _=>rfl⟩
theorem dR.trans {w1 w2:World}(h:dR w w1 b)(k:dR w1 w2 b):dR w w2 b :=
 ⟨k.os.trans h.os,k.tape.trans h.tape,k.output.trans h.output,eO h.size k.size,fun j hj hb hr=>by
  have h1:=h.block j hj hb hr;rw[k.block j (fM hj h.size) hb (hr.imp id fun hn cur fr=>by rw[h1];exact hn cur fr)];exact h1⟩
theorem dR.setCell (j:Nat)(v:Value):dR w (w.setCell ⟨b,j,none⟩ v) b :=
 have h:=grownBy.dP (grownBy.dH w (some b)) j v
 ⟨h.os,h.tape,h.output,h.size,fun k hk hkb _=>h.block k hk (fun e=>hkb (dV e))⟩
theorem dR.grown {g:Nat}(h:w.grownBy w' (some g))(hg:∃cur fr,w.heap[g]? = some (.cells cur 5 fr))(hb:b<g):dR w w' b :=
 ⟨h.os,h.tape,h.output,h.size,fun k hk hkb hr=>h.block k hk (by
  intro e;injection e with e;subst e;rcases hr with hr|hr
  · omega
  · obtain⟨cur,fr,hx⟩:=hg;exact hr cur fr hx)⟩
theorem XK {t tx ty:Nat}(bS:Elem P t e size bytes)(E:Enc α size)(base:Nat)(v:Value)(xs:List α)(dK:Own E e w base v xs)
 (x:Value) (m:Nat) (ys:List α) (hl:ys.length=m) (hs:Src P size tx x m (E.all ys) w) (hb:(xs.length+m)*bytes≤140737488355328) (hb2:xs.length+m≤maxLen) (dF:base≤w.heap.size) :
 ∃v' w',(Builtin.append_ #[t,tx] ty #[v,x]).run P w = .ok v' w'∧Own E e w' base v' (xs++ys)∧w.grownBy w' v.ownBlock:=by
 obtain⟨z,hi,hz⟩:=bS.inf;obtain⟨i,hi1,hi2,hi3,hi4⟩:=info_parts hi;have ht:=bS.und;subst hi3;subst hi4;have hlx:=E.iZ xs;have uP:=E.iZ ys;rw[hl]at uP;have hlen:(E.all (xs++ys)).length=(xs.length+m)*i.size:=by rw[E.iZ,ax,hl]
 have DX:xs.length+m≤9223372036854775807:=by simp only[maxLen]at hb2;omega
 have grown:∀(old:Nat),old<xs.length+m →
  Own E e (w.drew.alloc (.cells ((E.all xs++E.all ys).toArray++Builtin.zeroCells z.cells (grownCap w (xs.length+m) old e - (xs.length+m))) e)) base (.slice (some ⟨w.heap.size,0,none⟩) (xs.length+m) (grownCap w (xs.length+m) old e)) (xs++ys) ∧
  ∀r,w.grownBy (w.drew.alloc (.cells ((E.all xs++E.all ys).toArray++Builtin.zeroCells z.cells (grownCap w (xs.length+m) old e - (xs.length+m))) e)) r:=by
  intro old ho;have hge:=grownCap_ge w (xs.length+m) old e;have hcm:grownCap w (xs.length+m) old e≤maxLen:=grownCap_le_maxLen w (xs.length+m) old e hb2;refine⟨?_,fun r=>grownBy.below' (grownBy.dH _ _) (((ak _ _).drew).alloc (aj _) _)⟩;unfold Own;rw[ax,hl];refine⟨hlen,.inr ⟨w.heap.size,_,_,rfl,dF,heap_alloc_new w.drew _,hge,hcm, ?_, ?_⟩⟩
  · simp only[Array.size_append,List.size_toArray,size_zeroCells,hz,ax,hlx,uP, ← Nat.add_mul]
    congr 1;omega
  · simp only[Array.toList_append]
    rw[← E.all_append, ← hlen];exact List.take_left
 have h0:=dK;rcases dK.2 with ⟨rfl,hn⟩|⟨g,cap,cur,rfl,hbg,hg,hnc,hcm,hcs,xZ⟩
 · have hx:xs=[]:=mK hn
   subst hx;by_cases hm:m=0
   · subst hm
     have hy:ys=[]:=mK hl;subst hy;refine⟨.slice none 0 0,w, ?_,Own.nil E e w base,grownBy.dH _ _⟩;have hc:=hs.cells;have hll:=hs.len;have hc':(Builtin.firstCells i.size 0 x).run P w = .ok #[] w:=hc
     rcases hs.kind with ⟨e',hk⟩|hk <;>
      simp[Builtin.append_,run_underlying ht,run_underlying hk,sizeOf,typeInfo,hi1,hll,hc']
   · have hgr:=grown 0 (by simp;omega)
     have hr:=run_append_grow_src (P:=P) w t tx ty e i z ht hi1 hi2 none 0 0 [] (by simp[Builtin.firstCells]) x m (E.all ys) hs (by omega) (by simp at DX;omega) (growslice_fits (by omega) (by simpa using hb));simp only[fO,Nat.zero_add,eY,Enc.all,List.flatMap_nil]at hgr hr ⊢;exact⟨_,_,hr,hgr.1,hgr.2 _⟩
 · by_cases uS:xs.length+m≤cap
   · have z8:xs.length*i.size+(E.all ys).length≤cur.size:=by rw[uP,hcs, ← Nat.add_mul];exact Nat.mul_le_mul_right _ uS
     have hst:=run_storeCells_at P g (xs.length*i.size) e (E.all ys) 0 cur w hg (by omega) (E.tK ys);simp only[Nat.add_zero]at hst;refine⟨.slice (some ⟨g,0,none⟩) (xs.length+m) cap,w.setRow g (cur.toList.take (xs.length*i.size)++E.all ys++cur.toList.drop (xs.length*i.size+(E.all ys).length)).toArray, ?_, ?_, ?_⟩
     · rcases hs.kind with ⟨e',hk⟩|hk <;> simp[Builtin.append_,run_underlying ht,run_underlying hk,sizeOf,typeInfo,hi1,hs.len,uS,hs.cells,Addr.add_lit,hst]
     · unfold Own
       rw[ax,hl];refine⟨hlen,.inr ⟨g,cap,_,rfl,hbg,setRow_heap w g cur _ e _ hg,uS,hcm, ?_, ?_⟩⟩
       · simp only[List.size_toArray,ax,iB,jX,Array.length_toList]
         omega
       · rw[xZ, ← hlen, ← E.all_append]
         exact List.take_left
     · exact⟨rfl,rfl,rfl,by simp,fun k hk hne=>setRow_other w g k _ (fun e=>hne (congrArg some e))⟩
   · have hold:(Builtin.firstCells i.size xs.length (.slice (some ⟨g,0,none⟩) xs.length cap)).run P w.drew = .ok (E.all xs).toArray w.drew :=
      run_firstCells_some w.drew i.size xs.length ⟨g,0,none⟩ xs.length cap (E.all xs) hlx (World.ownsRow.cells (w:=w.drew) h0 (g:=g) rfl)
     have hgr:=grown cap (by omega);have hr:=run_append_grow_src (P:=P) w t tx ty e i z ht hi1 hi2 (some ⟨g,0,none⟩) xs.length cap (E.all xs) hold x m (E.all ys) hs (by omega) (by omega) (growslice_fits (by omega) hb);exact⟨_,_,hr,hgr.1,hgr.2 _⟩
theorem Nc {t tx:Nat}{ops:Array Oper}{rest:List Oper}{o:Oper}{a:Act}{Q:Exit→Act→World→Prop}(bS:Elem P t e size bytes)(E:Enc α size)
 (hgd:o.guard=none) (s x:Operand) (ho:o.op = .call { callee := .builtin .append,args:=#[s,x],argTypes:=#[t,tx] }) (base:Nat) (v:Value) (xs:List α)
 (hs:a.eval s=v) (dK:Own E e w base v xs) (y:Value) (m:Nat) (ys:List α) (hx:a.eval x=y) (hl:ys.length=m) (xX:Src P size tx y m (E.all ys) w)
 (hb:(xs.length+m)*bytes≤140737488355328) (hb2:xs.length+m≤maxLen) (dF:base≤w.heap.size)
 (h:∀(v':Value)(w':World),Own E e w' base v' (xs++ys)→w.grownBy w' v.ownBlock→wpList P ops Q rest (a.put o.dst v') w'):wpList P ops Q (o :: rest) a w:=by
 obtain⟨v',w',iP,h2,h3⟩:=XK (ty:=o.type) bS E base v xs dK y m ys hl xX hb hb2 dF;refine wpList_plain hgd fun _ hK => ?_
 unfold Oper.wp execOp;simp only[ho,resolve,invoke,builtin,Sem.run_bind,Sem.run_pure,Result.andThen_ok,List.map_toArray,fP,List.map_nil,hs,hx,iP];exact hK _ _ (h v' w' h2 h3)
theorem Ev {v:Value}{xs:List Int}(h:mU w b v xs)(g:Nat)(hg:v.ownBlock=some g):b≤g∧∃cur fr,w.heap[g]? = some (.cells cur 5 fr):=by
 rcases h.2 with ⟨h1,_⟩|⟨g',mf,cur,h1,h2,h3,_⟩
 · rw[h1]at hg;cases hg
 · rw[h1]at hg
   have:g'=g:=dV hg;subst this;exact⟨h2,cur,_,h3⟩
theorem Az {E:Enc α size}{e:TypeId}{v:Value}{xs:List α}(h:Own E e w b v xs):∃ao n c,v = .slice ao n c:=by
 rcases h.2 with ⟨h1,_⟩|⟨g,cap,cur,h1,_⟩
 · exact⟨_,_,_,h1⟩
 · exact⟨_,_,_,h1⟩
theorem dR.own {v:Value}{xs:List Int}(h:mU w (b+1) v xs)(hg:w.grownBy w' v.ownBlock):dR w w' b:=by
 cases hv:v.ownBlock with
 | none =>
   rw[hv]at hg;exact⟨hg.os,hg.tape,hg.output,hg.size,fun k hk _ _=>hg.block k hk (by simp)⟩
 | some g =>
   rw[hv]at hg;obtain⟨h1,h2⟩:=Ev h g hv;exact dR.grown hg h2 (by omega)
end Go.Proofs.YtahjnhmidjeniaaGreatDoor
