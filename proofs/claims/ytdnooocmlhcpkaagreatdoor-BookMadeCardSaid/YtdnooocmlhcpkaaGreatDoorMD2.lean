import Derived.Test.YtdnooocmlhcpkaaGreatDoorMD1
import Derived.Deep.RegionWith
import Derived.Shelf.Strings.Builder1
import Derived.Shelf.Strings.Builder2
import Derived.Shelf.Small.Strs
import Derived.Shelf.Strings.BuilderF
import Derived.Shelf.Strings.BuilderK
import Derived.Shelf.Utf8.RuneCount
import Derived.Shelf.Strconv.Atoi
import Derived.Shelf.Strconv.Itoa0
import Derived.Shelf.Strconv.Itoa1
import Derived.Shelf.LaysM
import Derived.Shelf.Strconv.Itoa2
import Derived.Shelf.Strconv.Itoa3
import Derived.Shelf.Strconv.AtoiErrFast
import Derived.Shelf.Strconv.ParseIntEmpty
import Derived.Shelf.Strconv.AtoiFail
import Derived.Shelf.Strconv.Clone
import Derived.Shelf.Strconv.SyntaxError
import Derived.Shelf.LaysC
import Derived.Shelf.Strconv.ToError
import Derived.Shelf.Strconv.Lower
import Derived.Shelf.Strconv.ParseUint10
import Derived.Shelf.Strconv.ParseUint10Empty
import Derived.Shelf.Strconv.ParseUint10Any
import Derived.Shelf.Strconv.ParseInt10
import Derived.Shelf.Strconv.AtoiLong
import Derived.Shelf.Strconv.AtoiInnerAll
import Derived.Shelf.Strconv.RangeError
import Derived.Shelf.Strconv.ToErrorRange
import Derived.Shelf.Strconv.AtoiAll
import Derived.Shelf.Strconv.ErrVarAll
import Derived.Shelf.Strings.Search1
import Derived.Shelf.Strings.Search2
import Derived.Shelf.Strings.Search3
import Derived.Shelf.Strings.Count
import Derived.Shelf.Strings.Shaped
import Derived.Shelf.Strings.Prefix
import Derived.Shelf.Strings.Split
import Derived.Shelf.Strings.Replace
import Derived.Shelf.Strings.SplitShaped
import Derived.Shelf.Unicode.Decode
import Derived.Shelf.Strings.RuneCount
import Derived.Shelf.Unicode.DecodeSlow
import Derived.Shelf.Unicode.DecodeAny
import Derived.Ground.Names2Prog
import Derived.Shelf.Slices.Clone
import Derived.Ground.SlgnProg
import Derived.Shelf.SlicesE.Clone
import Derived.Test.YtdnooocmlhcpkaaGreatDoorProg
import Derived.Laws.ResultCell
set_option maxRecDepth 100000
set_option maxHeartbeats 64000000
namespace Go.Proofs.YtdnooocmlhcpkaaGreatDoor
open Go.RowKit
def qz(w:World)(s:ak)(lo hi:Nat):Prop:=nG w s.A s.cap s.rows lo hi
theorem qz.keep{w w':World}{s:ak}{lo hi:Nat}(h:qz w s lo hi)(hk:∀g,lo≤g→g<hi→w'.heap[g]? = w.heap[g]?):qz w' s lo hi:=nG.keep h hk
theorem qz.up{w:World}(s:ak)(a b c d:Nat)(h1:a≤b)(h2:c≤d)(_:b≤c)(h:qz w s b c):qz w s a d:=nG.up h1 h2 h
def mM(w:World)(A:Option Addr)(n cap:Nat)(ah:List ak)(lo hi:Nat):Prop:=∃g m,A=some ⟨g,0,none⟩∧n=ah.length∧cap=ah.length∧ah.length≤maxLen∧lo≤g∧g<m∧iG nO 73 w g ah∧df (qz w) ah m hi
theorem mM.keep {w w':World}{A:Option Addr}{n cap:Nat}{ah:List ak}{lo hi:Nat}(h:mM w A n cap ah lo hi)(hk:∀g,lo≤g→g<hi→w'.heap[g]? = w.heap[g]?):mM w' A n cap ah lo hi:=by
 obtain⟨g,m,h1,h2,h3,h4,h5,h6,h7,h8⟩:=h;have:=h8.le;exact⟨g,m,h1,h2,h3,h4,h5,h6,h7.keep (hk g h5 (by omega)),h8.imp fun x a b _ ha hb hx=>hx.keep fun g h1 h2=>hk g (by omega) (by omega)⟩
theorem mM.up {w:World}{A:Option Addr}{n cap:Nat}{ah:List ak}{a b c d:Nat}(h1:a≤b)(h2:c≤d)(h:mM w A n cap ah b c):mM w A n cap ah a d:=by
 obtain⟨g,m,k1,k2,k3,k4,k5,k6,k7,k8⟩:=h;exact⟨g,m,k1,k2,k3,k4,by omega,k6,k7,k8.up qz.up (ag _) h2⟩
theorem mM.wX {w:World}{A:Option Addr}{n cap:Nat}{ah:List ak}{lo hi B:Nat}(h:mM w A n cap ah lo hi)(hB:hi≤B):eH w B (.slice A n cap) ah:=by
 obtain⟨g,m,rfl,rfl,rfl,h4,h5,h6,h7,h8⟩:=h;have:=h8.le;refine⟨h7.se (by omega) (ag _) h4,fun s hs => ?_⟩;obtain⟨i,hi⟩:=List.getElem?_of_mem hs;obtain⟨a,b,_,_,k3,k4,_⟩:=h8.at i s hi;exact nG.JQ k4 (by omega)
def BG(ah:List ak):Prop:=ah.length≤1000000∧∀s∈ah,s.rows.length≤1000000∧∀r∈s.rows,r.l.length≤1000000
def AX:ak:=⟨⟨#[]⟩,0,none,0,[]⟩
theorem aco (n:Nat)(hn:n≤1000000)(w:World):(Instr.makeSlice 24 (.int .i64 (n:Int)) (.int .i64 (n:Int))).run Tryz.prog w = .ok (.slice (some ⟨w.heap.size,0,none⟩) n n) (w.alloc (.cells (madeCells #[.string ⟨#[]⟩,.int .i64 0,.slice none 0 0] (n*3)) 73)):=by
 have hinfo:(Tryz.prog.info? 73).map (fun i=>(i.zero,i.size,i.bytes))=some (some (.agg #[.string ⟨#[]⟩,.int .i64 0,.slice none 0 0]),3,48):=by kernel_rfl
 obtain⟨i,hi,hzz⟩:=Option.map_eq_some_iff.1 hinfo;simp only[bD]at hzz;obtain⟨hz,hs,hb⟩:=hzz;have hr:=run_make (P:=Tryz.prog) w 24 73 i _ Tryz.underlying24 hi hz .i64 .i64 n n (by omega) (Int.le_refl _) (by rw[hb];omega) (by omega);simp only[Int.toNat_natCast,hs]at hr;exact hr
theorem W9 (w:World)(z g i j k:Nat)(a b c:Value)(h:g≠z):(((w.setCell ⟨z,i,none⟩ a).setCell ⟨z,j,none⟩ b).setCell ⟨z,k,none⟩ c).heap[g]? = w.heap[g]? := by
 rw[heap_setCell_other _ _ _ _ (by exact h),heap_setCell_other _ _ _ _ (by exact h),heap_setCell_other _ _ _ _ (by exact h)]
theorem adn (w:World)(z i j k:Nat)(a b c:Value):(((w.setCell ⟨z,i,none⟩ a).setCell ⟨z,j,none⟩ b).setCell ⟨z,k,none⟩ c).heap.size=w.heap.size:=by
 rw[lG,lG,lG]
theorem KA (done:List ak)(n i:Nat)(hd:done.length=i)(hi:i<n)(j:Nat)(u:Value)(hj:(nO.f AX)[j]? = some u):(nO.all (done++List.replicate (n - done.length) AX))[i*3+j]? = some u:=by
 have h3:j<3:=by rw[← nO.len AX];exact(dm.1 hj).1
 rw[nO.at _ i j AX (by rw[← hd,List.getElem?_append_right (ag _),Nat.sub_self,List.getElem?_replicate,if_pos (by omega)]) h3];exact hj
theorem VT (w:World)(A:Option Addr)(n cap:Nat)(ah:List ak)(h:eH w w.heap.size (.slice A n cap) ah)(hz:BG ah) :
 Calls Tryz.prog 66 #[.slice A n cap,.func (.func 67) #[] #[]] w fun e w'=>Below w.heap.size w w'∧∃A' sv,e = .returned (.slice A' n n)∧bF sv=bF ah∧mM w' A' n n sv w.heap.size w'.heap.size:=by
 have gG:=aa h;have HL:=aa h.1.len.1;have j4:=aa hz;have hn:n≤1000000:=by have h1:=hz.1;have h2:=h.1.len.1;omega
 clear h hz;have hmk:=fun w=>aco n hn w
 have HT:=aa (Pf nO 73 w n AX #[.string ⟨#[]⟩,.int .i64 0,.slice none 0 0] rfl (by omega));have HB0:=aa ((ai w.heap.size w).alloc (ag _) (.cells (madeCells #[.string ⟨#[]⟩,.int .i64 0,.slice none 0 0] (n*3)) 73));have lL:=aa (kD w (.cells (madeCells #[.string ⟨#[]⟩,.int .i64 0,.slice none 0 0] (n*3)) 73));go_enter Tryz.func66,Tryz.ntmps66;go_upto_region 3 with (fail)
 obtain⟨w1,hw1⟩:∃w1,w.alloc (.cells (madeCells #[.string ⟨#[]⟩,.int .i64 0,.slice none 0 0] (n*3)) 73)=w1:=⟨_,rfl⟩;rw[hw1]at HT HB0 lL ⊢;clear hw1 hmk;obtain⟨T,BS⟩:∃T,w.heap.size=T:=⟨_,rfl⟩;have gH:=aa BS;rw[BS]at HT HB0 lL ⊢
 go_loopw [13] (fun iv wr=>∃(i:Nat)(done:List ak),i≤n∧iv = .int .i64 (i:Int)∧Hid (done.length=i)∧Hid (bF done=(bF ah).take i)∧Hid (iG nO 73 wr T (done++List.replicate (n - done.length) AX))∧Hid (df (qz wr) done (T+1) wr.heap.size)∧Hid (Below T w wr))
  (fun iv _=>n - (intOf iv).toNat)
 case atStart=>exact⟨0,[],cu _,rfl,aa rfl,aa rfl,HT,aa (show T+1≤w1.heap.size from Nat.le_of_eq lL.o.symm),HB0⟩
 case round =>
  obtain⟨i,done,hi,rfl,HD,HM,HA,o8,HB⟩:=hrel;by_cases hlt:i<n
  · have hii:(i:Int)<(n:Int):=by omega
    have hi0:(0:Int)≤(i:Int):=by omega
    obtain⟨x,hx⟩:∃x,ah[i]? = some x:=⟨_,bn (by rw[HL.o];exact hlt)⟩;obtain⟨pb,po,rfl,hpb,e0,e1,e2,hrx⟩:=oP gG.o hx;have Cc:pb<T:=by rw[← gH.o];exact hpb
    have x0:wr.cell? ⟨pb,po+i*3,none⟩=some (.string x.nm):=(HB.o.cell (p:=⟨pb,po+i*3,none⟩) Cc).trans e0;have x1:wr.cell? ⟨pb,po+i*3+1,none⟩=some (.int .i64 x.ay):=(HB.o.cell (p:=⟨pb,po+i*3+1,none⟩) Cc).trans e1;have x2:wr.cell? ⟨pb,po+i*3+2,none⟩=some (.slice x.A x.rows.length x.cap):=(HB.o.cell (p:=⟨pb,po+i*3+2,none⟩) Cc).trans e2;have nD:=aa (show(bF ah).take (i+1)=(bF ah).take i++[x.p]from by unfold bF;rw[List.take_add_one,iD,hx];rfl);have hTr:T<wr.heap.size:=HA.o.lt;have oU:=aa (nJ wr x.nm x.ay (.slice x.A x.rows.length x.cap));have wM:=aa (ShAt.new wr x.nm x.ay (.slice x.A x.rows.length x.cap));have HC:=aa (Vv (wr.alloc (.cells #[.string x.nm,.int .i64 x.ay,.slice x.A x.rows.length x.cap] 73)) x (((hrx.below HB.o (Nat.le_of_eq gH.o)).mono (by have h1:=HB.o.size;rw[gH.o]at h1 ⊢;exact h1)).lift oU.o) (j4.o.2 x (dz hx)).1 (j4.o.2 x (dz hx)).2);clear e0 e1 e2 hrx hx;go_upto_region 5 with (fail)
    clear x0 x1 x2;obtain⟨w1,hw1⟩:∃w1,wr.alloc (.cells #[.string x.nm,.int .i64 x.ay,.slice x.A x.rows.length x.cap] 73)=w1:=⟨_,rfl⟩;rw[hw1]at oU wM HC ⊢;clear hw1;obtain⟨y0,y1,y2⟩:=wM.o.cells;obtain⟨n2,hn2⟩:∃n2,x.rows.length=n2:=⟨_,rfl⟩;have ed:=aa hn2;rw[hn2]at y2 HC ⊢;clear hn2;go_wp2_with (go_at_call 67;((with_reducible refine HC.o.mono ?_);rintro e w2 ⟨h1,A2,iB,rfl,hm,h2⟩;have H2:=aa (oU.o.trans (h1.mono oU.o.size));have HN:=aa h2;have Bq:=aa hm;have HA2:=aa (HA.o.keep ((h1.block T (eU hTr oU.o.size)).trans (oU.o.block T hTr)));have f0:=HA2.o.jh (i*3);have f1:=HA2.o.jh (i*3+1);have f2:=HA2.o.jh (i*3+2);have g0:w2.cell? ⟨T,i*3,none⟩=some (.string ⟨#[]⟩):=HA2.o.cell _ _ (KA done n i HD.o hlt 0 _ rfl);have g1:w2.cell? ⟨T,i*3+1,none⟩=some (.int .i64 0):=HA2.o.cell _ _ (KA done n i HD.o hlt 1 _ rfl);have g2:w2.cell? ⟨T,i*3+2,none⟩=some (.slice none 0 0):=HA2.o.cell _ _ (KA done n i HD.o hlt 2 _ rfl);clear h1 h2 hm))
    clear f0 f1 f2 g0 g1 g2 y0 y1 y2
    go_roundw
    case rel =>
     have hd:=HD.o;have hbw:=oU.o.size;obtain⟨w3,hw3⟩:∃w3,((w2.setCell ⟨T,i*3,none⟩ (.string x.nm)).setCell ⟨T,i*3+1,none⟩ (.int .i64 x.ay)).setCell ⟨T,i*3+2,none⟩ (.slice A2 n2 n2)=w3:=⟨_,rfl⟩;have hk3:∀g,g≠T→w3.heap[g]? = w2.heap[g]? := fun g hg=>by rw[← hw3];exact W9 w2 T g _ _ _ _ _ _ hg
     have hs:w3.heap.size=w2.heap.size:=by rw[← hw3];exact adn w2 T _ _ _ _ _ _
     have hz1:df (qz w3) done (T+1) wr.heap.size:=o8.o.imp fun y a b _ ha hb hy=>hy.keep fun g h1 h2=>(hk3 g (by omega)).trans (H2.o.block g (by omega))
     have hrl:iB.length=n2:=by have h:=congrArg List.length Bq.o;rw[dN,dN,ed.o]at h;exact h
     have hx:qz w3 ⟨x.nm,x.ay,A2,n2,iB⟩ wr.heap.size w2.heap.size:=((nG.keep HN.o fun g h1 h2=>hk3 g (by omega)).up hbw (ag _));rw[hw3];refine⟨i+1,done++[⟨x.nm,x.ay,A2,n2,iB⟩],by omega,by go_num,aa (by rw[aj,hd];rfl),aa ?_,aa ?_,aa ?_,aa ?_⟩
     · have h1:=HM.o
       rw[nD.o, ← h1];unfold bF;rw[iE];have:(ak.p ⟨x.nm,x.ay,A2,n2,iB⟩)=x.p:=by unfold ak.p;rw[Bq.o]
       rw[← this];rfl
     · have h1:=HA2.o.JS i ⟨x.nm,x.ay,A2,n2,iB⟩ (.string x.nm) (.int .i64 x.ay) (.slice A2 n2 n2) (by show [_,_,Value.slice A2 iB.length n2]=_;rw[hrl])
       rw[hw3]at h1;subst hd;rw[MW _ _ _ _ hlt]at h1;rw[aj];exact h1
     · rw[hs]
       exact hz1.snoc H2.o.size hx fun y a b c h1 h2 hy=>qz.up y a b c c h2 (ag _) h1 hy
     · rw[← hw3]
       exact(((HB.o.trans (H2.o.mono (Nat.le_of_lt hTr))).setCell (p:=⟨T,i*3,none⟩) (ag T) _).setCell (p:=⟨T,i*3+1,none⟩) (ag T) _).setCell (p:=⟨T,i*3+2,none⟩) (ag T) _
    case measure=>simp[intOf];omega
  · have hii:¬ (i:Int)<(n:Int):=by omega
    have hin:i=n:=by omega
    subst hin;go_wp2_with fail
    go_ret;have hd:=HD.o;have k1:bF done=bF ah:=by rw[HM.o];exact mK (by unfold bF;rw[dN,HL.o];exact ag _)
    have k2:mM wr (some ⟨T,0,none⟩) i i done T wr.heap.size:=⟨T,T+1,rfl,hd.symm,hd.symm,by unfold maxLen;omega,by omega,by omega,by
     have h1:=HA.o;rw[hd,Nat.sub_self,List.replicate_zero,fu]at h1;exact h1,o8.o⟩
    first
     | exact⟨HB.o,_,done,rfl,k1,k2⟩
     | exact⟨HB.o,_,rfl,done,k1,k2⟩
theorem abS:Tryz.f45.results=#[.cell 2 26]:=by kernel_rfl
structure uz (w0 w:World)(pv bv:Value)(done:List ak):Prop where
 par:aY w w0.heap.size pv
 o:aY w (w0.heap.size+1) (.slice none 0 0)
 cur:aY w (w0.heap.size+1+1) bv
 bk:iU w (w0.heap.size+3) bv done
 fV:Below w0.heap.size w0 w
theorem uz.next {w0 w w':World}{pv bv:Value}{done:List ak}(h:uz w0 w pv bv done)(hb:Below w.heap.size w w'):uz w0 w' pv bv done :=
 ⟨h.par.over hb,h.o.over hb,h.cur.over hb,h.bk.next hb,h.fV.trans (hb.mono h.fV.size)⟩
theorem uz.yn {w0 wa wb:World}{pv bv:Value}{done:List ak}(h:uz w0 wa pv bv done)(hg:wa.grownBy wb bv.ownBlock):aY wb (w0.heap.size+1+1) bv:=by
 unfold aY;rw[hg.block _ h.cur.lt (Am h.bk.1 (by omega))];exact h.cur
theorem uz.push {w0 wa wb:World}{pv bv v':Value}{done:List ak}{s:ak}(h:uz w0 wa pv bv done)(hs:iH wa (w0.heap.size+3) s.rv s.rows)(ho:Own nO 73 wb (w0.heap.size+3) v' (done++[s]))(hg:wa.grownBy wb bv.ownBlock) :
 uz w0 (wb.setCell ⟨w0.heap.size+1+1,0,none⟩ v') pv v' (done++[s]):=by
 have h1:=h.bk.push hs ho hg;have Ip:aY wb w0.heap.size pv:=by unfold aY;rw[hg.block _ h.par.lt (Am h.bk.1 (by omega))];exact h.par
 have hout:aY wb (w0.heap.size+1) (.slice none 0 0):=by unfold aY;rw[hg.block _ h.o.lt (Am h.bk.1 (by omega))];exact h.o
 refine⟨Ip.other _ _ (by show w0.heap.size≠w0.heap.size+1+1;omega),hout.other _ _ (by show w0.heap.size+1≠w0.heap.size+1+1;omega),(h.yn hg).put v',h1.keep fun g h2 _=>heap_setCell_other wb _ g _ (by show g≠w0.heap.size+1+1;omega), ?_⟩;exact(h.fV.grown hg h.fV.size fun g e=>by have:=(h.bk.1.lies e).1;omega).setCell (by show w0.heap.size≤w0.heap.size+1+1;omega) _
def G5(ah:List ak):Prop:=∀s∈ah,∀r∈s.rows,r.l≠[]
structure Rd where
 s:ByteArray
 k:Nat
 sh:ByteArray
 c:Int
 r:Int
 ac:Bool
 ar:Bool
def Rd.rest(d:Rd):List Int:=(sb d.s).drop d.k
def Rd.cells(d:Rd):Array Value:=#[.string d.s,.int .i64 (d.k:Int),.string d.sh,.int .i64 d.c,.int .i64 d.r,.bool d.ac,.bool d.ar]
def Rd.start(s:ByteArray):Rd:=⟨s,0,⟨#[]⟩,0,0,false,false⟩
def iX(x:Int):Bool:=decide (x≠33)
def isRow(l:List Int):Bool:=decide (l≠[]∧l.head? ≠ some 48∧bH l≤999)
def Rd.bL(d:Rd):List Int:=(sb d.s).takeWhile iX
def Rd.kL(d:Rd):Option Rd:=if d.bL.length=d.s.size then some d else if fF d.bL=true then some { d with sh:=strOfNums d.bL,k:=d.bL.length+1 }else none
def Rd.mark(d:Rd):Bool:=decide (d.rest.head? = some 36)
def Rd.wT(d:Rd):Option Rd:=some { d with ac:=d.mark,k:=d.k+(eD d.mark).length }
def Rd.wU(d:Rd):Option Rd:=some { d with ar:=d.mark,k:=d.k+(eD d.mark).length }
def Rd.aI(d:Rd):Option Rd:=if iK (d.rest.takeWhile aG)=true then some { d with c:=ky (d.rest.takeWhile aG),k:=d.k+(d.rest.takeWhile aG).length }else none
def Rd.row(d:Rd):Option Rd:=if isRow (d.rest.takeWhile isNum)=true then some { d with r:=bH (d.rest.takeWhile isNum) - 1,k:=d.k+(d.rest.takeWhile isNum).length }else none
def Rd.fin(d:Rd):Option Rd:=if d.k=d.s.size then some d else none
theorem uj (p:Int→Bool):∀(a b:List Int),(∀x∈a,p x=true)→(∀x,b.head? = some x→p x=false)→(a++b).takeWhile p=a
 | [],[],_,_=>rfl
 | [],y :: b,_,h2=>by rw[fQ,List.takeWhile_cons,h2 y rfl];rfl
 | x :: a,b,h,h2=>by
   rw[dO,List.takeWhile_cons,h x (by simp),if_pos rfl,uj p a b (fun z hz=>h z (by simp[hz])) h2]
theorem Rj (p:Int→Bool):∀(a b:List Int),(∀x∈a,p x=true)→(a++b).takeWhile p=a++b.takeWhile p
 | [],b,_=>rfl
 | x :: a,b,h=>by
   rw[dO,List.takeWhile_cons,h x (by simp),if_pos rfl,Rj p a b (fun z hz=>h z (by simp[hz])),dO]
theorem rP (p:Int→Bool):∀(l:List Int),∀x∈l.takeWhile p,p x=true
 | [],x,hx=>by simp at hx
 | y :: l,x,hx=>by
   rw[List.takeWhile_cons]at hx;by_cases h:p y=true
   · rw[if_pos h]at hx
     rcases List.mem_cons.1 hx with rfl|hx
     · exact h
     · exact rP p l x hx
   · rw[if_neg h]at hx;simp at hx
theorem take_split (p:Int→Bool):∀(l:List Int),l.takeWhile p++l.drop (l.takeWhile p).length=l
 | []=>rfl
 | y :: l=>by
   rw[List.takeWhile_cons];by_cases h:p y=true
   · rw[if_pos h,aK,List.drop_succ_cons,dO,take_split p l]
   · rw[if_neg h];rfl
theorem CR (p:Int→Bool):∀(l:List Int)(x:Int),(l.drop (l.takeWhile p).length).head? = some x→p x=false
 | [],x,h=>by simp at h
 | y :: l,x,h=>by
   rw[List.takeWhile_cons]at h;by_cases hy:p y=true
   · rw[if_pos hy,aK,List.drop_succ_cons]at h;exact CR p l x h
   · rw[if_neg hy]at h;simp at h;subst h;simpa using hy
theorem Hq:∀(n:Nat)(l:List Int),l.length=n→l≠[]→(∀x∈l,isNum x=true)→l.head? ≠ some 48→1≤bH l∧aF (bH l).toNat=l:=by
 intro n
 induction n with
 | zero=>intro l h h2;exact absurd (l5 h) h2
 | succ n ih =>
   intro l hl hne hall hh
   obtain ⟨a,x,rfl⟩:∃a x,l=a++[x]:=by
    rcases List.eq_nil_or_concat l with h|⟨a,x,h⟩
    · exact absurd h hne
    · exact⟨a,x,by rw[h,List.concat_eq_append]⟩
   have hx:=iL (hall x (by simp));rw[xK];by_cases ha:a=[]
   · subst ha
     have h48:x≠48:=by intro h;subst h;exact hh rfl
     have hv:bH []=0:=rfl;rw[hv,lg _ (by omega)];refine⟨by omega, ?_⟩;rw[fQ];congr 1;omega
   · have hlen:a.length=n:=by rw[aj,fq]at hl;omega
     have h0:a.head? ≠ some 48:=by
      cases a with
      | nil=>exact absurd rfl ha
      | cons y a=>simpa using hh
     obtain⟨h1,h2⟩:=ih a hlen ha (fun z hz=>hall z (by simp[hz])) h0;refine⟨by omega, ?_⟩;rw[qC _ (by omega),show(10*bH a+(x - 48)).toNat / 10=(bH a).toNat from by omega,h2];congr 2;omega
theorem xJ:∀(b a:List Int),(∀x∈b,isNum x=true)→0≤bH a→bH a≤bH (a++b)
 | [],a,_,_=>by rw[fu];exact Int.le_refl _
 | x :: b,a,h,h0=>by
   have hx:=iL (h x (by simp));have h1:=xK a x;have h2:=xJ b (a++[x]) (fun z hz=>h z (by simp[hz])) (by omega);rw[bO,List.singleton_append]at h2;omega
theorem y9(d:Rd)(m:Nat):(sb d.s).drop (d.k+m)=d.rest.drop m:=by unfold Rd.rest;rw[List.drop_drop]
theorem I9 (d:Rd):d.rest=eD d.mark++d.rest.drop (eD d.mark).length:=by
 unfold Rd.mark;cases h:d.rest with
 | nil=>rfl
 | cons x l =>
   by_cases hx:x=36
   · subst hx;simp[eD]
   · have:(x :: l).head? ≠ some 36:=by simpa using hx
     rw[decide_eq_false this];simp[eD]
def fO(s:ByteArray):Option Rd:=((((((Rd.start s).kL.bind Rd.wT).bind Rd.aI).bind Rd.wU).bind Rd.row).bind Rd.fin)
theorem PE {l:List Int}(h:fF l=true):l≠[]∧l.length≤12:=by
 unfold fF at h;rw[dE,decide_eq_true_iff,decide_eq_true_iff]at h;exact⟨by intro h0;rw[h0]at h;simp at h,h.2.2⟩
theorem OG{l:List Int}(h:isRow l=true):l≠[]∧l.head? ≠ some 48∧bH l≤999:=by unfold isRow at h;rw[decide_eq_true_iff]at h;exact h
theorem vX (s:ByteArray)(d:Rd)(h:fO s=some d):d.sh.size≤12∧dn (sb d.sh) d.c d.r=true∧aO (sb d.sh) d.c d.r d.ac d.ar=sb s:=by
 unfold fO at h;simp only[Option.bind_eq_some_iff]at h;obtain⟨d5,⟨d4,⟨d3,⟨d2,⟨d1,h1,h2⟩,h3⟩,h4⟩,h5⟩,h6⟩:=h
 -- the sheet
 have g1:d1.s=s∧sb s=(if sb d1.sh=[]then []else sb d1.sh++[33])++d1.rest∧(sb d1.sh=[]∨fF (sb d1.sh)=true)∧d1.sh.size≤12:=by
  unfold Rd.kL at h1;by_cases hc:(Rd.start s).bL.length=(Rd.start s).s.size
  · rw[if_pos hc]at h1
    injection h1 with h1;subst h1;exact⟨rfl,rfl,.inl rfl,by show(0:Nat)≤12;omega⟩
  · rw [if_neg hc]at h1
    by_cases hn:fF (Rd.start s).bL=true
    · rw [if_pos hn]at h1
      injection h1 with h1;subst h1
      have hb:Bytes (Rd.start s).bL:=fun x hx=>uh s x (by
       have:=take_split iX (sb s);rw[← this];exact List.mem_append_left _ hx)
      obtain⟨q1,q2⟩:=PE hn;refine⟨rfl, ?_,.inr (by show fF (sb (strOfNums _))=true;rw[gK _ hb];exact hn),by show(strOfNums _).size≤12;rw[strOfNums_size];exact q2⟩;show sb s=(if sb (strOfNums (Rd.start s).bL)=[]then []else sb (strOfNums (Rd.start s).bL)++[33])++(sb s).drop ((Rd.start s).bL.length+1);rw[gK _ hb,if_neg q1];have e:=take_split iX (sb s)
      have hlt:(Rd.start s).bL.length<(sb s).length:=by
       have:=congrArg List.length e;rw[aj]at this;have h3:(Rd.start s).bL.length≠s.size:=hc;have h4:=bC s;show((sb s).takeWhile iX).length<_;have h5:(Rd.start s).bL=(sb s).takeWhile iX:=rfl;rw[h5]at h3;omega
      have hh:=CR iX (sb s);have h6:(sb s).drop (Rd.start s).bL.length=(sb s)[(Rd.start s).bL.length] :: (sb s).drop ((Rd.start s).bL.length+1):=List.drop_eq_getElem_cons hlt
      have h7:=hh ((sb s)[(Rd.start s).bL.length]) (by
       show((sb s).drop (Rd.start s).bL.length).head? = _;rw[h6];rfl)
      have h8:(sb s)[(Rd.start s).bL.length]=33:=by unfold iX at h7;simpa using h7
      rw[h8]at h6;rw[bO,List.singleton_append, ← h6];exact e.symm
    · rw[if_neg hn]at h1;cases h1
 obtain⟨e1,t1,n1,z1⟩:=g1
 -- the mark ahead of the column
 have g2:d2.s=d1.s∧d2.sh=d1.sh∧d1.rest=eD d2.ac++d2.rest:=by
  unfold Rd.wT at h2;injection h2 with h2;subst h2;refine⟨rfl,rfl, ?_⟩;show d1.rest=eD d1.mark++(sb d1.s).drop (d1.k+(eD d1.mark).length);rw[y9];exact I9 d1
 obtain⟨e2,f2,t2⟩:=g2
 have g3:d3.s=d2.s∧d3.sh=d2.sh∧d3.ac=d2.ac∧d2.rest=aS d3.c++d3.rest∧0≤d3.c∧d3.c≤701:=by
  unfold Rd.aI at h3;by_cases hc:iK (d2.rest.takeWhile aG)=true
  · rw[if_pos hc]at h3;injection h3 with h3;subst h3
    obtain⟨q1,q2,q3⟩:=Vq _ hc;refine⟨rfl,rfl,rfl, ?_,q2,q3⟩;show d2.rest=aS (ky (d2.rest.takeWhile aG))++(sb d2.s).drop (d2.k+(d2.rest.takeWhile aG).length);rw[q1,y9,take_split]
  · rw[if_neg hc]at h3;cases h3
 obtain⟨e3,f3,a3,t3,c0,c1⟩:=g3
 have g4:d4.s=d3.s∧d4.sh=d3.sh∧d4.ac=d3.ac∧d4.c=d3.c∧d3.rest=eD d4.ar++d4.rest:=by
  unfold Rd.wU at h4;injection h4 with h4;subst h4;refine⟨rfl,rfl,rfl,rfl, ?_⟩;show d3.rest=eD d3.mark++(sb d3.s).drop (d3.k+(eD d3.mark).length);rw[y9];exact I9 d3
 obtain⟨e4,f4,a4,b4,t4⟩:=g4
 have g5:d5.s=d4.s∧d5.sh=d4.sh∧d5.ac=d4.ac∧d5.c=d4.c∧d5.ar=d4.ar∧d4.rest=aF (d5.r+1).toNat++d5.rest∧0≤d5.r∧d5.r≤998:=by
  unfold Rd.row at h5;by_cases hc:isRow (d4.rest.takeWhile isNum)=true
  · rw[if_pos hc]at h5;injection h5 with h5;subst h5
    obtain⟨q1,q2,q3⟩:=OG hc;obtain⟨q4,q5⟩:=Hq _ _ rfl q1 (rP isNum _) q2;refine⟨rfl,rfl,rfl,rfl,rfl, ?_,by show 0≤bH (d4.rest.takeWhile isNum) - 1;omega,by show bH (d4.rest.takeWhile isNum) - 1≤998;omega⟩;show d4.rest=aF (bH (d4.rest.takeWhile isNum) - 1+1).toNat++(sb d4.s).drop (d4.k+(d4.rest.takeWhile isNum).length);rw[Int.sub_add_cancel,q5,y9,take_split]
  · rw[if_neg hc]at h5;cases h5
 obtain⟨e5,f5,a5,b5,r5,t5,r0,r1⟩:=g5
 have g6:d=d5∧d5.rest=[]:=by
  unfold Rd.fin at h6;by_cases hc:d5.k=d5.s.size
  · rw[if_pos hc]at h6;injection h6 with h6
    refine⟨h6.symm, ?_⟩;unfold Rd.rest;rw[hc, ← bC,List.drop_length]
  · rw[if_neg hc]at h6;cases h6
 obtain⟨rfl,t6⟩:=g6;have hsh:d.sh=d1.sh:=by rw[f5,f4,f3,f2]
 have hac:d.ac=d2.ac:=by rw[a5,a4,a3]
 have hc:d.c=d3.c:=by rw[b5,b4]
 have hm:dn (sb d.sh) d.c d.r=true:=by
  unfold dn;rw[dE,Bool.or_eq_true,decide_eq_true_iff,decide_eq_true_iff,hsh,hc];exact⟨n1,by omega,by omega,by omega,by omega⟩
 refine⟨by rw[hsh];exact z1,hm, ?_⟩;rw[zl _ _ _ _ _ hm,t1,t2,t3,t4,t5,t6,hsh,hc,hac,r5,fu];rfl
def DI(l:List Int):Prop:=∀sh c r ac ar,dn sh c r=true→aO sh c r ac ar≠l
def Says (l:List Int)(e:Ending):Prop :=
 (∃s c r ac ar,s.size≤12∧dn (sb s) c r=true∧aO (sb s) c r ac ar=l∧e = .returned (.tuple #[.agg #[.string s,.int .i64 c,.int .i64 r,.bool ac,.bool ar],.bool true])) ∨
 (DI l∧e = .returned (.tuple #[.agg #[.string ⟨#[]⟩,.int .i64 0,.int .i64 0,.bool false,.bool false],.bool false]))
theorem Pk (d:Rd)(b:Bool)(t:List Int)(h:d.rest=eD b++t)(ht:∀x,t.head? = some x→x≠36):d.mark=b:=by
 unfold Rd.mark;rw[h];cases b with
 | true=>rfl
 | false =>
   rw[decide_eq_false_iff_not];intro hx;exact ht 36 hx rfl
theorem X6 (r:Int)(h0:0≤r)(h1:r≤998):isRow (aF (r+1).toNat)=true:=by
 have hh:∀(n u:Nat),u<n→1≤u→(aF u).head? ≠ some 48:=by
  intro n
  induction n with
  | zero=>intro u h;omega
  | succ n ih =>
    intro u hu h1;by_cases h:u<10
    · rw[lg u h];simp;omega
    · rw[qC u h]
      have:=ih (u / 10) (by omega) (by omega);cases hd:aF (u / 10)with
      | nil=>exact absurd hd (qD _)
      | cons y l=>rw[hd]at this;simpa using this
 unfold isRow;rw[decide_eq_true_iff];refine⟨qD _,hh _ _ (Nat.lt_succ_self _) (by omega), ?_⟩;rw[AL];omega
theorem Aq (s:ByteArray)(h:fO s=none):DI (sb s):=by
 intro sh c r ac ar hm e;obtain⟨c0,c1,r0,r1⟩:=EC hm;rw[zl _ _ _ _ _ hm]at e
 -- the sheet
 have g1:∃d1,(Rd.start s).kL=some d1∧d1.rest=oQ c r ac ar∧d1.s=s∧d1.k+d1.rest.length=s.size:=by
  by_cases hs:sh=[]
  · rw [if_pos hs,fQ]at e
    have hp:(Rd.start s).bL=sb s:=by
     show(sb s).takeWhile iX=sb s;rw[← e, ← fu (oQ c r ac ar),uj iX _ [] (fun x hx=>by unfold iX;rw[decide_eq_true_iff];exact J9 c r ac ar x hx) (fun x hx=>by simp at hx),fu]
    refine⟨Rd.start s, ?_,e.symm,rfl,by show 0+(sb s).length=s.size;rw[bC];omega⟩;unfold Rd.kL;rw[hp,if_pos (show(sb s).length=(Rd.start s).s.size from bC s)]
  · rw [if_neg hs,bO]at e
    have hn:=(Ah hm).resolve_left hs
    have hp:(Rd.start s).bL=sh:=by
     show(sb s).takeWhile iX=sh;rw[← e];exact uj iX _ _ (fun x hx=>by unfold iX;rw[decide_eq_true_iff];exact Jf _ hn x hx) (fun x hx=>by simp at hx;subst hx;rfl)
    have hlen:¬ sh.length=(Rd.start s).s.size:=by
     show ¬ sh.length=s.size;rw[← bC, ← e];simp only[aj,aK];omega
    refine⟨{ Rd.start s with sh:=strOfNums sh,k:=sh.length+1 }, ?_, ?_,rfl, ?_⟩
    · unfold Rd.kL;rw[hp,if_neg hlen,if_pos hn]
    · show(sb s).drop (sh.length+1)=_
      rw[← e, ← List.drop_drop,List.drop_left];rfl
    · show sh.length+1+((sb s).drop (sh.length+1)).length=s.size
      rw[List.length_drop, ← bC, ← e];simp only[aj,aK];omega
 obtain⟨d1,h1,t1,s1,k1⟩:=g1;have EG:∀x,aG x=true→x≠36:=by intro x hx;have:=qB hx;omega
 have EH:∀x,isNum x=true→x≠36:=by intro x hx;have:=iL hx;omega
 obtain ⟨d2,h2,t2,s2,k2⟩:∃d2,d1.wT=some d2∧d2.rest=aS c++(eD ar++aF (r+1).toNat)∧d2.s=s∧d2.k=d1.k+(eD ac).length:=by
  have hmk:=Pk d1 ac (aS c++(eD ar++aF (r+1).toNat)) t1 (fun x hx=>EG x (tL c x (head_append (D8 c c0 c1) hx)));refine⟨_,rfl, ?_,s1,by show d1.k+(eD d1.mark).length=_;rw[hmk]⟩;show(sb d1.s).drop (d1.k+(eD d1.mark).length)=_;rw[y9,hmk,t1];unfold oQ;rw[List.drop_left]
 have hcap:∀x,(eD ar++aF (r+1).toNat).head? = some x→aG x=false:=by
  intro x hx;cases ar with
  | true=>simp[eD]at hx;subst hx;decide
  | false =>
    have hx':(aF (r+1).toNat++[]).head? = some x:=by simpa [eD]using hx
    have:=iL (rA _ x (head_append (qD _) hx'));exact Oy (by omega)
 obtain ⟨d3,h3,t3,s3,k3⟩:∃d3,d2.aI=some d3∧d3.rest=eD ar++aF (r+1).toNat∧d3.s=s∧d3.k=d2.k+(aS c).length:=by
  have hp:d2.rest.takeWhile aG=aS c:=by rw[t2];exact uj aG _ _ (tL c) hcap
  refine⟨{ d2 with c:=ky (d2.rest.takeWhile aG),k:=d2.k+(d2.rest.takeWhile aG).length }, ?_, ?_,s2,by show d2.k+(d2.rest.takeWhile aG).length=_;rw[hp]⟩
  · unfold Rd.aI;rw[if_pos (by rw[hp];exact(JC c c0 c1).1)]
  · show(sb d2.s).drop (d2.k+(d2.rest.takeWhile aG).length)=_
    rw[y9,hp,t2,List.drop_left]
 obtain ⟨d4,h4,t4,s4,k4⟩:∃d4,d3.wU=some d4∧d4.rest=aF (r+1).toNat∧d4.s=s∧d4.k=d3.k+(eD ar).length:=by
  have hmk:=Pk d3 ar (aF (r+1).toNat) t3 (fun x hx=>EH x (rA _ x (head_append (b:=[]) (qD _) (by rw[fu];exact hx))));refine⟨_,rfl, ?_,s3,by show d3.k+(eD d3.mark).length=_;rw[hmk]⟩;show(sb d3.s).drop (d3.k+(eD d3.mark).length)=_;rw[y9,hmk,t3,List.drop_left]
 obtain ⟨d5,h5,s5,k5⟩:∃d5,d4.row=some d5∧d5.s=s∧d5.k=d4.k+(aF (r+1).toNat).length:=by
  have hp:d4.rest.takeWhile isNum=aF (r+1).toNat:=by
   rw[t4];have:=uj isNum (aF (r+1).toNat) [] (rA _) (fun x hx=>by simp at hx);rw[fu]at this;exact this
  refine⟨{ d4 with r:=bH (d4.rest.takeWhile isNum) - 1,k:=d4.k+(d4.rest.takeWhile isNum).length }, ?_,s4,by show d4.k+(d4.rest.takeWhile isNum).length=_;rw[hp]⟩;unfold Rd.row;rw[if_pos (by rw[hp];exact X6 r r0 r1)]
 have h6:d5.fin=none:=by
  unfold fO at h;rw[h1]at h;simp only[Option.bind_some]at h;rw[h2]at h;simp only[Option.bind_some]at h;rw[h3]at h;simp only[Option.bind_some]at h;rw[h4]at h;simp only[Option.bind_some]at h;rw[h5]at h;exact h
 unfold Rd.fin at h6
 have hk:d5.k=d5.s.size:=by
  rw[s5];rw[t1]at k1;unfold oQ at k1;simp only[aj]at k1;omega
 rw[if_pos hk]at h6;cases h6
theorem Mo (c:Int):Bytes (aS c):=by
 intro x hx;have:=qB (tL c x hx);omega
theorem Mq (u:Nat):Bytes (aF u):=by
 intro x hx;have:=iL (rA u x hx);omega
theorem Mr (b:Bool):Bytes (eD b):=by
 intro x hx;have:=vG b x hx;rw[decide_eq_true_iff]at this;omega
theorem ym (s:ByteArray)(c r:Int)(ac ar:Bool):Bytes (aO (sb s) c r ac ar):=by
 by_cases h:dn (sb s) c r=true
 · rw[zl _ _ _ _ _ h]
   unfold oQ;refine Bytes.append ?_ ((Mr ac).append ((Mo c).append ((Mr ar).append (Mq _))));split
   · exact Bytes.nil
   · exact Bytes.append (uh s) (by intro x hx;simp at hx;omega)
 · unfold aO;rw[if_neg h];exact Bytes.nil
theorem QK{a b:ByteArray}(h:sb a=sb b):a=b:=by rw[← jU a, ← jU b,h]
theorem Says.text {s:ByteArray}{c r:Int}{ac ar:Bool}{e:Ending}(hm:dn (sb s) c r=true)(h:Says (sb (strOfNums (aO (sb s) c r ac ar))) e):e = .returned (.tuple #[.agg #[.string s,.int .i64 c,.int .i64 r,.bool ac,.bool ar],.bool true]):=by
 rw[gK _ (ym s c r ac ar)]at h;rcases h with ⟨s',c',r',sH,q9,_,h2,h3,h4⟩|⟨h1,_⟩
 · obtain⟨e1,e2,e3,e4,e5⟩:=Rl h2 hm h3
   rw[h4,QK e1,e2,e3,e4,e5]
 · exact absurd rfl (h1 _ _ _ _ _ hm)
theorem Cj (c:Int)(_h0:0≤c)(_h1:c≤255)(w:World) :
 Calls Tryz.prog 142 #[.int .u8 c] w fun e w'=>e = .returned (.bool (aG c))∧w=w':=by
 go_enter Tryz.func142,Tryz.ntmps142
 go_wp2
 all_goals go_ret
 all_goals exact⟨dD (by unfold aG;first|rfl|(symm;rw[decide_eq_true_iff];omega)|(symm;rw[decide_eq_false_iff_not];omega)|(rw[decide_eq_decide];omega)),rfl⟩
theorem z8 (c:Int)(_h0:0≤c)(_h1:c≤255)(w:World) :
 Calls Tryz.prog 112 #[.int .u8 c] w fun e w'=>e = .returned (.bool (isNum c))∧w=w':=by
 go_enter Tryz.func112,Tryz.ntmps112
 go_wp2
 all_goals go_ret
 all_goals exact⟨dD (by unfold isNum;first|rfl|(symm;rw[decide_eq_true_iff];omega)|(symm;rw[decide_eq_false_iff_not];omega)|(rw[decide_eq_decide];omega)),rfl⟩
theorem Oz{c:Int}(h:aG c=true):isLet c=true:=by unfold aG at h;unfold isLet;rw[decide_eq_true_iff]at h ⊢;omega
theorem OA{c:Int}(h:aG c=false):isLet c=decide (97≤c∧c≤122):=by unfold aG at h;unfold isLet;rw[decide_eq_false_iff_not]at h;rw[decide_eq_decide];omega
theorem Ck (c:Int)(_h0:0≤c)(_h1:c≤255)(w:World) :
 Calls Tryz.prog 111 #[.int .u8 c] w fun e w'=>e = .returned (.bool (isLet c))∧w=w':=by
 by_cases hc:aG c=true
 · have hl:=Oz hc
   have HL:=aa hl;clear hl;go_enter Tryz.func111,Tryz.ntmps111;go_wp2_with (go_at_call 142;((with_reducible refine(Cj _ ?_ ?_ _).mono ?_);(first|omega|skip);(first|omega|skip);rintro e w' ⟨rfl,rfl⟩))
   all_goals go_ret
   all_goals exact⟨dD (by rw[HL.o]),rfl⟩
 · have hc':aG c=false:=by simpa using hc
   have hl:=OA hc';have HL:=aa hl;clear hl hc;go_enter Tryz.func111,Tryz.ntmps111;go_wp2_with (go_at_call 142;((with_reducible refine(Cj _ ?_ ?_ _).mono ?_);(first|omega|skip);(first|omega|skip);rintro e w' ⟨rfl,rfl⟩))
   all_goals go_ret
   all_goals exact⟨dD (by rw[HL.o];first|rfl|(symm;rw[decide_eq_true_iff];omega)|(symm;rw[decide_eq_false_iff_not];omega)|(rw[decide_eq_decide];omega)),rfl⟩
theorem Zp (s:ByteArray)(h:s.size=0):fF (sb s)=false:=by
 unfold fF;rw[bC,h,Bool.and_eq_false_iff];right;rfl
theorem Zo (s:ByteArray)(h:12<s.size):fF (sb s)=false:=by
 unfold fF;rw[bC,Bool.and_eq_false_iff];right;rw[decide_eq_false_iff_not];omega
theorem Ct (s:ByteArray)(w:World)(_hs:s.size≤1000000) :
 Calls Tryz.prog 73 #[.string s] w fun e w'=>e = .returned (.bool (fF (sb s)))∧w=w':=by
 by_cases h0:s.size=0
 · have hz:=rJ s h0
   have hno:=Zp s h0;have ek:=aa hno;clear hno;subst hz;clear h0 _hs;go_enter Tryz.func73,Tryz.ntmps73;go_wp2_with fail
   all_goals go_ret
   all_goals exact⟨dD ek.o.symm,rfl⟩
 · have hne := p8 s h0
   have hne2:s.toList.isEmpty=false:=by cases hq:s.toList with|nil=>exact absurd hq hne|cons a l=>rfl
   by_cases h12:12<s.size
   · have hno:=Zo s h12
     have ek:=aa hno;clear hno;have Xf:(12:Int)<(s.size:Int):=by omega
     clear h0;go_enter Tryz.func73,Tryz.ntmps73;go_wp2_with fail
     all_goals go_ret
     all_goals exact⟨dD ek.o.symm,rfl⟩
   · have Xf : ¬ (12:Int)<(s.size:Int):=by omega
     have hp0:0<s.size:=by omega
     obtain⟨a,ha⟩:∃a:Int,(s[0].toNat:Int)=a:=⟨_,rfl⟩;have ha1:0≤a∧a≤255:=by have:=s[0].toNat_lt;omega
     have hga:(sb s).getD 0 0=a:=by rw[oN s 0 hp0,ha]
     have xR:=aa hga;clear hga;by_cases hl:isLet a=true
     · have hin : ∀j,j<1→mr j ((sb s).getD j 0)=true:=by
        intro j hj;have:j=0:=by omega
        subst this;rw[xR.o];unfold mr;rw[hl];rfl
       have qi:=aa hin;clear hin;clear h0;go_enter Tryz.func73,Tryz.ntmps73;go_wp2_with (go_at_call 111;((with_reducible refine(Ck _ ?_ ?_ _).mono ?_);(first|omega|skip);(first|omega|skip);rintro e w' ⟨rfl,rfl⟩))
       clear hl
       go_loopw [3] (fun i wr=>∃k:Nat,1≤k∧k≤s.size∧i = .int .i64 k∧Hid (∀j,j<k→mr j ((sb s).getD j 0)=true)∧w=wr)
        (fun i _=>s.size - (intOf i).toNat)
       case atStart=>exact⟨1,by omega,by omega,rfl,qi,rfl⟩
       case round =>
        obtain⟨k,hk1,hk,rfl,HG,rfl⟩:=hrel;by_cases hlt:k<s.size
        · have hki:(k:Int)<(s.size:Int):=by omega
          obtain⟨b,hb⟩:∃b:Int,(s[k].toNat:Int)=b:=⟨_,rfl⟩;have hb1:0≤b∧b≤255:=by have:=s[k].toNat_lt;omega
          have hgb:(sb s).getD k 0=b:=by rw[oN s k hlt,hb]
          have vo:=aa hgb;clear hgb;by_cases hl:isLet b=true
          · go_wp2_with (first
             | (go_at_call 111;((with_reducible refine(Ck _ ?_ ?_ _).mono ?_);(first|omega|skip);(first|omega|skip);rintro e w' ⟨rfl,rfl⟩)))
            go_roundw
            case rel =>
             refine⟨k+1,by omega,by omega,by go_num,aa ?_,by trivial⟩;intro j hj;by_cases h1:j<k
             · exact HG.o j h1
             · rw[show j=k from by omega,vo.o];unfold mr;rw[hl,Bool.true_or]
            case measure=>simp[intOf];omega
          · have hl':isLet b=false:=by simpa using hl
            clear hl;by_cases hn:isNum b=true
            · go_wp2_with (first
               | (go_at_call 111;((with_reducible refine(Ck _ ?_ ?_ _).mono ?_);(first|omega|skip);(first|omega|skip);rintro e w' ⟨rfl,rfl⟩))
               | (go_at_call 112;((with_reducible refine(z8 _ ?_ ?_ _).mono ?_);(first|omega|skip);(first|omega|skip);rintro e w' ⟨rfl,rfl⟩)))
              go_roundw
              case rel =>
               refine⟨k+1,by omega,by omega,by go_num,aa ?_,by trivial⟩;intro j hj;by_cases h1:j<k
               · exact HG.o j h1
               · rw[show j=k from by omega,vo.o];unfold mr;rw[hl',hn,decide_eq_true (by omega:0<k)];rfl
              case measure=>simp[intOf];omega
            · have hn':isNum b=false:=by simpa using hn
              clear hn;have hno:=EE s k hlt (by rw[vo.o];unfold mr;rw[hl',hn',Bool.and_false];rfl);have ek:=aa hno;clear hno
              go_wp2_with (first
               | (go_at_call 111;((with_reducible refine(Ck _ ?_ ?_ _).mono ?_);(first|omega|skip);(first|omega|skip);rintro e w' ⟨rfl,rfl⟩))
               | (go_at_call 112;((with_reducible refine(z8 _ ?_ ?_ _).mono ?_);(first|omega|skip);(first|omega|skip);rintro e w' ⟨rfl,rfl⟩)))
              all_goals go_ret
              all_goals exact⟨dD ek.o.symm,rfl⟩
        · have hki:¬ (k:Int)<(s.size:Int):=by omega
          have hno:=PD s (fun j hj=>HG.o j (by omega));rw[decide_eq_true (by omega)]at hno;have ek:=aa hno;clear hno;go_wp2_with fail
          all_goals go_ret
          all_goals exact⟨dD ek.o.symm,rfl⟩
     · have hl':isLet a=false:=by simpa using hl
       have hno:=EE s 0 hp0 (by rw[xR.o];unfold mr;rw[hl'];rfl);have ek:=aa hno;clear hno hl h0;go_enter Tryz.func73,Tryz.ntmps73;go_wp2_with (go_at_call 111;((with_reducible refine(Ck _ ?_ ?_ _).mono ?_);(first|omega|skip);(first|omega|skip);rintro e w' ⟨rfl,rfl⟩))
       all_goals go_ret
       all_goals exact⟨dD ek.o.symm,rfl⟩
theorem VV:∀m:Nat,m<26→Utf8.encode (65+(m:Int))=strOfNums [65+(m:Int)]:=by decide +kernel
theorem MQ (x:Int)(h0:65≤x)(h1:x≤90):Utf8.encode x=strOfNums [x]:=by
 have:=VV (x - 65).toNat (by omega);rw[show(65:Int)+((x - 65).toNat:Int)=x from by omega]at this;exact this
theorem adA(a b:List Int)(A B:ByteArray)(h:A=strOfNums a)(k:B=strOfNums b):A++B=strOfNums (a++b):=by rw[h,k,gq]
def bS(w:World)(b:Nat)(d:Rd):Prop:=w.heap[b]? = some (.cells d.cells 261)
theorem bS.lt{w:World}{b:Nat}{d:Rd}(h:bS w b d):b<w.heap.size:=(dZ.1 h).1
theorem bS.drewN{w:World}{b:Nat}{d:Rd}(h:bS w b d)(n:Nat):bS (w.drewN n) b d:=h
theorem bS.below{w w':World}{B b:Nat}{d:Rd}(h:bS w b d)(hb:Below B w w')(hB:b<B):bS w' b d:=by unfold bS;rw[hb.block b hB];exact h
theorem bS.facts {w:World}{b:Nat}{d:Rd}(h:bS w b d) :
 w.cell? ⟨b,0,none⟩=some (.string d.s)∧w.cell? ⟨b,1,none⟩=some (.int .i64 d.k)∧w.cell? ⟨b,2,none⟩=some (.string d.sh)∧w.cell? ⟨b,3,none⟩=some (.int .i64 d.c)∧w.cell? ⟨b,4,none⟩=some (.int .i64 d.r)∧w.cell? ⟨b,5,none⟩=some (.bool d.ac)∧w.cell? ⟨b,6,none⟩=some (.bool d.ar) :=
 ⟨by rw[cell_of_row w b 0 _ _ _ h];rfl,by rw[cell_of_row w b 1 _ _ _ h];rfl,by rw[cell_of_row w b 2 _ _ _ h];rfl,by rw[cell_of_row w b 3 _ _ _ h];rfl,by rw[cell_of_row w b 4 _ _ _ h];rfl,by rw[cell_of_row w b 5 _ _ _ h];rfl,by rw[cell_of_row w b 6 _ _ _ h];rfl⟩
theorem bS.frozen{w:World}{b:Nat}{d:Rd}(h:bS w b d)(j:Nat):w.frozen? ⟨b,j,none⟩=false:=frozen_of_row w b j _ _ h
theorem bS.rM{w:World}{b:Nat}{d:Rd}(h:bS w b d)(k:Nat):bS (w.setCell ⟨b,1,none⟩ (.int .i64 (k:Int))) b { d with k:=k }:=by unfold bS;rw[heap_setCell_same w b 1 _ _ _ h];rfl
theorem bS.CJ{w:World}{b:Nat}{d:Rd}(h:bS w b d)(s:ByteArray):bS (w.setCell ⟨b,2,none⟩ (.string s)) b { d with sh:=s }:=by unfold bS;rw[heap_setCell_same w b 2 _ _ _ h];rfl
theorem bS.QM{w:World}{b:Nat}{d:Rd}(h:bS w b d)(c:Int):bS (w.setCell ⟨b,3,none⟩ (.int .i64 c)) b { d with c:=c }:=by unfold bS;rw[heap_setCell_same w b 3 _ _ _ h];rfl
theorem bS.QN{w:World}{b:Nat}{d:Rd}(h:bS w b d)(c:Int):bS (w.setCell ⟨b,4,none⟩ (.int .i64 c)) b { d with r:=c }:=by unfold bS;rw[heap_setCell_same w b 4 _ _ _ h];rfl
theorem bS.acF{w:World}{b:Nat}{d:Rd}(h:bS w b d)(x:Bool):bS (w.setCell ⟨b,5,none⟩ (.bool x)) b { d with ac:=x }:=by unfold bS;rw[heap_setCell_same w b 5 _ _ _ h];rfl
theorem bS.acG{w:World}{b:Nat}{d:Rd}(h:bS w b d)(x:Bool):bS (w.setCell ⟨b,6,none⟩ (.bool x)) b { d with ar:=x }:=by unfold bS;rw[heap_setCell_same w b 6 _ _ _ h];rfl
def Part (o:Option Rd)(b:Nat)(w:World)(e:Ending)(w':World):Prop :=
 w.grownBy w' (some b)∧((∃d',o=some d'∧e = .returned (.bool true)∧bS w' b d')∨(o=none∧e = .returned (.bool false)))
theorem Wh (b:Nat)(d:Rd)(w:World)(h:bS w b d)(_hs:d.s.size≤1000000)(_hk:d.k≤d.s.size) :
 Calls Tryz.prog 252 #[.pointer (some ⟨b,0,none⟩)] w (Part d.fin b w):=by
 obtain⟨c0,c1,c2,c3,c4,c5,c6⟩:=h.facts;clear c2 c3 c4 c5 c6;have HR:=aa h;clear h;by_cases hk:d.k=d.s.size
 · have hf:d.fin=some d:=by unfold Rd.fin;rw[if_pos hk]
   have HF:=aa hf;clear hf;have hi:((d.k:Int) == (d.s.size:Int))=true:=beq_iff_eq.2 (by omega);go_enter Tryz.func252,Tryz.ntmps252;go_wp2_with fail
   go_quiet (fail)
   go_wp2_with fail
   go_ret;exact⟨grownBy.drewN' (grownBy.refl' _ _) _,.inl ⟨d,HF.o,by simp,HR.o.drewN _⟩⟩
 · have hf:d.fin=none:=by unfold Rd.fin;rw[if_neg hk]
   have HF:=aa hf;clear hf;have hi:((d.k:Int) == (d.s.size:Int))=false:=beq_eq_false_iff_ne.2 (by omega);go_enter Tryz.func252,Tryz.ntmps252;go_wp2_with fail
   go_quiet (fail)
   go_wp2_with fail
   go_ret;exact⟨grownBy.drewN' (grownBy.refl' _ _) _,.inr ⟨HF.o,by simp⟩⟩
theorem JO (d:Rd)(h:d.k<d.s.size):d.rest.head? = some ((d.s[d.k].toNat:Nat):Int):=by
 unfold Rd.rest;rw[List.head?_drop,oM d.s d.k h]
theorem rest_end (d:Rd)(h:d.s.size≤d.k):d.rest=[]:=by
 unfold Rd.rest;rw[List.drop_eq_nil_iff,bC];exact h
theorem Pg (b:Nat)(d:Rd)(w:World)(h:bS w b d)(_hs:d.s.size≤1000000)(_hk:d.k≤d.s.size) :
 Calls Tryz.prog 260 #[.pointer (some ⟨b,0,none⟩)] w fun e w'=>e = .returned (.bool d.mark)∧bS w' b { d with k:=d.k+(eD d.mark).length }∧w.grownBy w' (some b):=by
 obtain⟨c0,c1,c2,c3,c4,c5,c6⟩:=h.facts;clear c2 c3 c4 c5 c6;have f1:=h.frozen 1;have HR:=aa h;clear h;by_cases hk:d.k=d.s.size
 · have hf:d.mark=false:=by unfold Rd.mark;rw[rest_end d (by omega)];rfl
   have HF:=aa hf;clear hf;have hi:((d.k:Int) == (d.s.size:Int))=true:=beq_iff_eq.2 (by omega);go_enter Tryz.func260,Tryz.ntmps260;go_wp2_with fail
   go_quiet (fail)
   go_wp2_with fail
   go_ret;rw[HF.o];exact⟨rfl,HR.o.drewN _,grownBy.drewN' (grownBy.refl' _ _) _⟩
 · have hi:((d.k:Int) == (d.s.size:Int))=false:=beq_eq_false_iff_ne.2 (by omega)
   have hlt:d.k<d.s.size:=by omega
   have hki:(d.k:Int)<(d.s.size:Int):=by omega
   obtain⟨a,ha⟩:∃a:Int,(d.s[d.k].toNat:Int)=a:=⟨_,rfl⟩;have ha1:0≤a∧a≤255:=by have:=d.s[d.k].toNat_lt;omega
   have hh:=JO d hlt;rw[ha]at hh;by_cases fM:a=36
   · have hf:d.mark=true:=by unfold Rd.mark;rw[hh,fM];rfl
     have HF:=aa hf;clear hf hh;have hj:(a == 36)=true:=beq_iff_eq.2 fM;have hj2:(a != 36)=false:=by rw[bne,hj];rfl
     clear fM;go_enter Tryz.func260,Tryz.ntmps260;go_wp2_with fail
     go_quiet (fail)
     go_wp2_with fail
     go_ret;rw[HF.o];exact⟨rfl,(HR.o.drewN _).rM (d.k+1),grownBy.setCell' (grownBy.drewN' (grownBy.refl' _ _) _) _ _⟩
   · have hf:d.mark=false:=by unfold Rd.mark;rw[hh,decide_eq_false_iff_not];intro h;injection h with h;exact fM h
     have HF:=aa hf;clear hf hh;have hj:(a == 36)=false:=beq_eq_false_iff_ne.2 fM;have hj2:(a != 36)=true:=by rw[bne,hj];rfl
     clear fM;go_enter Tryz.func260,Tryz.ntmps260;go_wp2_with fail
     go_quiet (fail)
     go_wp2_with fail
     go_ret;rw[HF.o];exact⟨rfl,HR.o.drewN _,grownBy.drewN' (grownBy.refl' _ _) _⟩
theorem T9 (b:Nat)(d:Rd)(w:World)(h:bS w b d)(_hs:d.s.size≤1000000)(_hk:d.k≤d.s.size) :
 Calls Tryz.prog 248 #[.pointer (some ⟨b,0,none⟩)] w (Part d.wT b w):=by
 have HR:=aa h;clear h;go_enter Tryz.func248,Tryz.ntmps248;go_wp2_with (go_at_call 260;((with_reducible refine(Pg b d _ HR.o ?_ ?_).mono ?_);(first|omega|skip);(first|omega|skip);rintro e w1 ⟨rfl,h1,h2⟩;obtain⟨c0,c1,c2,c3,c4,c5,c6⟩:=h1.facts;have f5:=h1.frozen 5;have H1:=aa h1;clear h1;have H2:=aa h2;clear h2))
 go_ret;exact⟨grownBy.setCell' H2.o _ _,.inl ⟨_,rfl,rfl,H1.o.acF _⟩⟩
theorem Ua (b:Nat)(d:Rd)(w:World)(h:bS w b d)(_hs:d.s.size≤1000000)(_hk:d.k≤d.s.size) :
 Calls Tryz.prog 250 #[.pointer (some ⟨b,0,none⟩)] w (Part d.wU b w):=by
 have HR:=aa h;clear h;go_enter Tryz.func250,Tryz.ntmps250;go_wp2_with (go_at_call 260;((with_reducible refine(Pg b d _ HR.o ?_ ?_).mono ?_);(first|omega|skip);(first|omega|skip);rintro e w1 ⟨rfl,h1,h2⟩;obtain⟨c0,c1,c2,c3,c4,c5,c6⟩:=h1.facts;have f6:=h1.frozen 6;have H1:=aa h1;clear h1;have H2:=aa h2;clear h2))
 go_ret;exact⟨grownBy.setCell' H2.o _ _,.inl ⟨_,rfl,rfl,H1.o.acG _⟩⟩
end Go.Proofs.YtdnooocmlhcpkaaGreatDoor
namespace Go.Proofs.YtdnooocmlhcpkaaGreatDoor
open Go.RowKit
theorem qI {f:FuncId}{args:Array Value}{w:World}{n:Nat}{v:Value}(h:Calls Tryz.prog f args (w.drewN n) fun e w'=>e = .returned v∧w.drewN n=w'):Calls Tryz.prog f args (w.drewN n) fun e w''=>e = .returned v∧∃m,w''=w.drewN m :=
 Calls.quiet_of_same (h.mono fun _ _ ⟨a,b⟩=>⟨a,b.symm⟩)
theorem bS.wm {w:World}{b m p:Nat}{d:Rd}(h:bS w b { d with k:=d.k+m })(hp:d.k+m=p)(n:Nat):bS ((w.drewN n).setCell ⟨b,1,none⟩ (.int .i64 ((p:Int)+1))) b { d with k:=d.k+(m+1) }:=by
 subst hp;exact(h.drewN n).rM (d.k+m+1)
theorem Ka (d:Rd)(m:Nat)(h:d.k+m<d.s.size):d.rest.take (m+1)=d.rest.take m++[((d.s[d.k+m].toNat:Nat):Int)]:=by
 unfold Rd.rest;rw[List.take_add_one,List.getElem?_drop,oM d.s _ h];rfl
theorem pQ(d:Rd):d.rest.length=d.s.size - d.k:=by unfold Rd.rest;rw[List.length_drop,bC]
theorem zi (p:Int→Bool)(l:List Int)(m:Nat)(h:∀x∈l.take m,p x=true)(h2:∀x,l[m]? = some x→p x=false):l.takeWhile p=l.take m:=by
 have e:=uj p (l.take m) (l.drop m) h (fun x hx=>h2 x (by rw[List.head?_drop]at hx;exact hx));rw[List.take_append_drop]at e;exact e
theorem Fj (p:Int→Bool)(l:List Int)(m:Nat)(h:∀x∈l.take m,p x=true):l.takeWhile p=l.take m++(l.drop m).takeWhile p:=by
 have e:=Rj p (l.take m) (l.drop m) h;rw[List.take_append_drop]at e;exact e
theorem pq {p:Int→Bool}{l:List Int}{x:Int}(h:∀y∈l,p y=true)(hx:p x=true):∀y∈l++[x],p y=true:=by
 intro y hy;rw[List.mem_append]at hy;rcases hy with hy|hy
 · exact h y hy
 · simp at hy;rw[hy];exact hx
def nK(l:List Int):Int:=l.foldl (fun n x=>26*n+(x - 64)) 0
theorem Vs(l:List Int)(x:Int):nK (l++[x])=26*nK l+(x - 64):=by unfold nK;rw[List.foldl_append];rfl
theorem MJ (l:List Int)(h:∀x∈l,aG x=true)(hl:l.length≤2):nK l≤702∧(l=[]∧nK l=0∧iK l=false∨0<nK l∧iK l=true∧ky l=nK l - 1):=by
 match l,hl,h with
 | [],_,_=>exact⟨by decide,.inl ⟨rfl,rfl,rfl⟩⟩
 | [a],_,h =>
   have ha:=h a (by simp);have:=qB ha;have hv:nK [a]=a - 64:=by unfold nK;simp
   have hi:iK [a]=true:=by unfold iK;simp[ha]
   refine⟨by omega,.inr ⟨by omega,hi, ?_⟩⟩;unfold ky;rw[if_pos hi,hv];simp;omega
 | [a,b],_,h =>
   have ha:=h a (by simp);have hb:=h b (by simp);have g1:=qB ha;have g2:=qB hb;have hv:nK [a,b]=26*(a - 64)+(b - 64):=by unfold nK;simp
   have hi:iK [a,b]=true:=by unfold iK;simp[ha,hb]
   refine⟨by omega,.inr ⟨by omega,hi, ?_⟩⟩;unfold ky;rw[if_pos hi,hv];simp;omega
theorem X3{l:List Int}(h:2<l.length):iK l=false:=by unfold iK;rw[decide_eq_false (by omega),Bool.false_and]
theorem MI (d:Rd)(m:Nat)(v:Int)(b:Nat)(w wr:World)(hv:nK (d.rest.take m)=v)(hall:∀x∈d.rest.take m,aG x=true)(hm:m≤2)(hk:d.k+m≤d.s.size)(hstop:∀x,d.rest[m]? = some x→aG x=false)(e:Ending)(he:e = .returned (.bool (decide (0<v))))
 (hr:bS wr b { { d with k:=d.k+m }with c:=v - 1 })(hg:w.grownBy wr (some b)):Part d.aI b w e wr:=by
 subst he;have hsp:=zi aG d.rest m hall hstop;have hlen:(d.rest.take m).length=m:=by rw[gD,pQ];omega
 refine⟨hg, ?_⟩;unfold Rd.aI;rw[hsp];rcases(MJ (d.rest.take m) hall (by omega)).2 with ⟨h1,h2,h3⟩|⟨h1,h2,h3⟩
 · rw[h3,if_neg (by simp)]
   exact .inr ⟨rfl,by rw[decide_eq_false (by omega)]⟩
 · rw[if_pos h2]
   refine .inl ⟨_,rfl,by rw[decide_eq_true (by omega)], ?_⟩;rw[h3,hv,hlen];exact hr
theorem Vr (b:Nat)(d:Rd)(w:World)(h:bS w b d)(_hs:d.s.size≤1000000)(_hk:d.k≤d.s.size) :
 Calls Tryz.prog 249 #[.pointer (some ⟨b,0,none⟩)] w (Part d.aI b w):=by
 have HR:=aa h;clear h;go_enter Tryz.func249,Tryz.ntmps249;go_wp2_with fail
 go_loopw [3] (fun n wr=>∃(m:Nat)(v:Int),n = .int .i64 v∧0≤v∧v≤702∧d.k+m≤d.s.size∧Hid (nK (d.rest.take m)=v∧(∀x∈d.rest.take m,aG x=true)∧m≤2)∧Hid (bS wr b { d with k:=d.k+m })∧Hid (w.grownBy wr (some b)))
  (fun n _=>800 - (intOf n).toNat)
 case atStart=>exact⟨0,0,rfl,by omega,by omega,by omega,aa ⟨rfl,by simp,by omega⟩,aa HR.o,aa (grownBy.refl' _ _)⟩
 case round =>
  obtain⟨m,v,rfl,hv0,hv1,dh,HM,bR,HG⟩:=hrel;obtain⟨c0,c1,c2,c3,c4,c5,c6⟩:=bR.o.facts;have f1:=bR.o.frozen 1;have f3:=bR.o.frozen 3;clear c2 c4 c5 c6;simp only at c0 c1 c3;obtain⟨p,hp⟩:∃p:Nat,d.k+m=p:=⟨_,rfl⟩;rw[hp]at c1;by_cases hlt:p<d.s.size
  · have hlt2 : (p:Int)<(d.s.size:Int):=by omega
    obtain⟨a,ha⟩:∃a:Int,(d.s[p].toNat:Int)=a:=⟨_,rfl⟩;have ha1:0≤a∧a≤255:=by have:=d.s[p].toNat_lt;omega
    have hnx:d.rest.take (m+1)=d.rest.take m++[a]:=by subst hp;rw[Ka d m hlt,ha]
    have hat:d.rest[m]? = some a:=by subst hp;unfold Rd.rest;rw[List.getElem?_drop,oM d.s _ hlt,ha]
    have dB:=aa hnx;clear hnx;have HAT:=aa hat;clear hat;have HP:=aa hp;clear hp;by_cases hc:aG a=true
    · have hcb := qB hc
      have pM:nK (d.rest.take (m+1))=26*v+(a - 64):=by rw[dB.o,Vs,HM.o.1]
      have hall:=pq HM.o.2.1 hc;rw[← dB.o]at hall;have jA:=aa pM;clear pM;have jI:=aa hall;clear hall;by_cases hbig:702<v*26+(a - 65)+1
      · have hno:d.aI=none:=by
         have h2:¬ m+1≤2:=by
          intro h2;have:=(MJ _ jI.o (by rw[gD];omega)).1;rw[jA.o]at this;omega
         have h3:iK (d.rest.takeWhile aG)=false:=by
          apply X3;rw[Fj aG d.rest (m+1) jI.o,aj,gD,pQ];have:=HP.o;omega
         unfold Rd.aI;rw[h3];rfl
        have ek:=aa hno;clear hno;go_wp2_with fail
        go_quiet ((go_at_call 142;exact qI (Cj _ (by omega) (by omega) _)))
        go_wp2_with fail
        go_quiet (fail)
        go_wp2_with fail
        go_ret;exact⟨grownBy.drewN' HG.o _,.inr ⟨ek.o,rfl⟩⟩
      · go_wp2_with fail
        go_quiet ((go_at_call 142;exact qI (Cj _ (by omega) (by omega) _)))
        go_wp2_with fail
        go_quiet (fail)
        go_wp2_with fail
        go_roundw
        case rel =>
         have hm2:m+1≤2:=by
          have h3:=HM.o.2.2;by_cases h:m=2
          · exfalso
            have hl:(d.rest.take m).length=2:=by rw[gD,pQ];have:=HP.o;omega
            match hq:d.rest.take m,hl with
            | [x,y],_ =>
              have h1:=HM.o.2.1;have h4:=HM.o.1;rw[hq]at h1 h4;have g1:=qB (h1 x (by simp));have g2:=qB (h1 y (by simp));have hv:nK [x,y]=26*(x - 64)+(y - 64):=by unfold nK;simp
              omega
          · omega
         refine⟨m+1,v*26+(a - 65)+1,rfl,by omega,by omega,by have:=HP.o;omega,aa ⟨by rw[jA.o];omega,jI.o,hm2⟩,aa ?_,aa (grownBy.setCell' (grownBy.drewN' HG.o _) _ _)⟩;exact bS.wm bR.o HP.o _
        case measure=>simp[intOf];omega
    · have hc':aG a=false:=by simpa using hc
      clear hc;have hend:=fun (e:Ending)(mI:World)=>MI d m v b w mI HM.o.1 HM.o.2.1 HM.o.2.2 dh (fun x hx=>by rw[HAT.o]at hx;injection hx with hx;rw[← hx];exact hc') e
      have xQ:=aa hend;clear hend;go_wp2_with fail
      go_quiet ((go_at_call 142;exact qI (Cj _ (by omega) (by omega) _)))
      go_wp2_with fail
      go_ret;exact xQ.o _ _ rfl ((bR.o.drewN _).QM _) (grownBy.setCell' (grownBy.drewN' HG.o _) _ _)
  · have hlt2:¬ (p:Int)<(d.s.size:Int):=by omega
    have hend:=fun (e:Ending)(mI:World)=>MI d m v b w mI HM.o.1 HM.o.2.1 HM.o.2.2 dh (fun x hx=>by have h1:=(dm.1 hx).1;rw[pQ]at h1;omega) e
    have xQ:=aa hend;clear hend;clear hp;go_wp2_with fail
    go_quiet (fail)
    go_wp2_with fail
    go_ret;exact xQ.o _ _ rfl ((bR.o.drewN _).QM _) (grownBy.setCell' (grownBy.drewN' HG.o _) _ _)
theorem QF (d:Rd)(m:Nat)(v:Int)(b:Nat)(w wr:World)(hv:bH (d.rest.take m)=v)(hall:∀x∈d.rest.take m,isNum x=true)(hz:m=0∧v=0∨1≤v∧d.rest.take m≠[]∧(d.rest.take m).head? ≠ some 48)(hv9:v≤999)(hk:d.k+m≤d.s.size)(hstop:∀x,d.rest[m]? = some x→isNum x=false)(e:Ending)(he:e = .returned (.bool (decide (0<v))))
 (hr:bS wr b { { d with k:=d.k+m }with r:=v - 1 })(hg:w.grownBy wr (some b)):Part d.row b w e wr:=by
 subst he;have hsp:=zi isNum d.rest m hall hstop;have hlen:(d.rest.take m).length=m:=by rw[gD,pQ];omega
 refine⟨hg, ?_⟩;unfold Rd.row;rw[hsp];rcases hz with ⟨h1,h2⟩|⟨h1,h2,h3⟩
 · have:isRow (d.rest.take m)=false:=by rw[h1];rfl
   rw[this,if_neg (by simp)];exact .inr ⟨rfl,by rw[decide_eq_false (by omega)]⟩
 · have:isRow (d.rest.take m)=true:=by unfold isRow;rw[decide_eq_true_iff];exact⟨h2,h3,by omega⟩
   rw[if_pos this];refine .inl ⟨_,rfl,by rw[decide_eq_true (by omega)], ?_⟩;rw[hv,hlen];exact hr
theorem WZ{l:List Int}{x:Int}(h:l≠[]):(l++[x]).head? = l.head? := by cases l with|nil=>exact absurd rfl h|cons a l=>rfl
theorem ab6 (b:Nat)(d:Rd)(w:World)(h:bS w b d)(_hs:d.s.size≤1000000)(_hk:d.k≤d.s.size) :
 Calls Tryz.prog 251 #[.pointer (some ⟨b,0,none⟩)] w (Part d.row b w):=by
 have HR:=aa h;clear h;go_enter Tryz.func251,Tryz.ntmps251;go_wp2_with fail
 go_loopw [3] (fun n wr=>∃(m:Nat)(v:Int),n = .int .i64 v∧0≤v∧v≤999∧d.k+m≤d.s.size∧Hid (bH (d.rest.take m)=v∧(∀x∈d.rest.take m,isNum x=true)∧(m=0∧v=0∨1≤v∧d.rest.take m≠[]∧(d.rest.take m).head? ≠ some 48))∧Hid (bS wr b { d with k:=d.k+m })∧Hid (w.grownBy wr (some b)))
  (fun n _=>1200 - (intOf n).toNat)
 case atStart=>exact⟨0,0,rfl,by omega,by omega,by omega,aa ⟨rfl,by simp,.inl ⟨rfl,rfl⟩⟩,aa HR.o,aa (grownBy.refl' _ _)⟩
 case round =>
  obtain⟨m,v,rfl,hv0,hv1,dh,HM,bR,HG⟩:=hrel;obtain⟨c0,c1,c2,c3,c4,c5,c6⟩:=bR.o.facts;have f1:=bR.o.frozen 1;have f4:=bR.o.frozen 4;clear c2 c3 c5 c6;simp only at c0 c1 c4;obtain⟨p,hp⟩:∃p:Nat,d.k+m=p:=⟨_,rfl⟩;rw[hp]at c1;by_cases hlt:p<d.s.size
  · have hlt2:(p:Int)<(d.s.size:Int):=by omega
    obtain⟨a,ha⟩:∃a:Int,(d.s[p].toNat:Int)=a:=⟨_,rfl⟩;have ha1:0≤a∧a≤255:=by have:=d.s[p].toNat_lt;omega
    have hnx:d.rest.take (m+1)=d.rest.take m++[a]:=by subst hp;rw[Ka d m hlt,ha]
    have hat:d.rest[m]? = some a:=by subst hp;unfold Rd.rest;rw[List.getElem?_drop,oM d.s _ hlt,ha]
    have dB:=aa hnx;clear hnx;have HAT:=aa hat;clear hat;have HP:=aa hp;clear hp;by_cases hc:isNum a=true
    · have hcb:=iL hc
      have pM:bH (d.rest.take (m+1))=10*v+(a - 48):=by rw[dB.o,xK,HM.o.1]
      have hall:=pq HM.o.2.1 hc;rw[← dB.o]at hall;have jA:=aa pM;clear pM;have jI:=aa hall;clear hall;by_cases hbad:v*10+(a - 48)=0∨999<v*10+(a - 48)
      · have hno:d.row=none:=by
         have h3:isRow (d.rest.takeWhile isNum)=false:=by
          rw[Fj isNum d.rest (m+1) jI.o];unfold isRow;rw[decide_eq_false_iff_not];rintro⟨_,h2,h3⟩;rcases hbad with h|h
          · rcases HM.o.2.2 with ⟨hm0,_⟩|⟨hm1,_⟩
            · apply h2;rw[dB.o,hm0];simp;omega
            · omega
          · have:=xJ ((d.rest.drop (m+1)).takeWhile isNum) (d.rest.take (m+1)) (rP isNum _) (by rw[jA.o];omega)
            rw[jA.o]at this;omega
         unfold Rd.row;rw[h3];rfl
        have ek:=aa hno;clear hno;by_cases hz:v*10+(a - 48)=0
        · have hzb:(v*10+(a - 48) == 0)=true:=beq_iff_eq.2 hz
          clear hbad hz;go_wp2_with fail
          go_quiet ((go_at_call 112;exact qI (z8 _ (by omega) (by omega) _)))
          go_wp2_with fail
          go_quiet (fail)
          go_wp2_with fail
          go_ret;exact⟨grownBy.drewN' HG.o _,.inr ⟨ek.o,rfl⟩⟩
        · have hzb:(v*10+(a - 48) == 0)=false:=beq_eq_false_iff_ne.2 hz
          have h9:999<v*10+(a - 48):=by omega
          clear hbad hz;go_wp2_with fail
          go_quiet ((go_at_call 112;exact qI (z8 _ (by omega) (by omega) _)))
          go_wp2_with fail
          go_quiet (fail)
          go_wp2_with fail
          go_ret;exact⟨grownBy.drewN' HG.o _,.inr ⟨ek.o,rfl⟩⟩
      · have hz:¬ v*10+(a - 48)=0:=by omega
        have hzb:(v*10+(a - 48) == 0)=false:=beq_eq_false_iff_ne.2 hz;have h9:¬ 999<v*10+(a - 48):=by omega
        have h9':v*10+(a - 48)≤999:=by omega
        have h1':1≤v*10+(a - 48):=by omega
        clear hbad hz;go_wp2_with fail
        go_quiet ((go_at_call 112;exact qI (z8 _ (by omega) (by omega) _)))
        go_wp2_with fail
        go_quiet (fail)
        go_wp2_with fail
        go_roundw
        case rel =>
         refine⟨m+1,v*10+(a - 48),rfl,by omega,by omega,by have:=HP.o;omega,aa ⟨by rw[jA.o];omega,jI.o,.inr ⟨by omega, ?_, ?_⟩⟩,aa ?_,aa (grownBy.setCell' (grownBy.drewN' HG.o _) _ _)⟩
         · rw[dB.o];simp
         · rw[dB.o]
           rcases HM.o.2.2 with ⟨hm0,hm1⟩|⟨_,h2,h3⟩
           · rw[hm0];simp;omega
           · rw[WZ h2];exact h3
         · exact bS.wm bR.o HP.o _
        case measure=>simp[intOf];omega
    · have hc':isNum a=false:=by simpa using hc
      clear hc;have hend:=fun (e:Ending)(mI:World)=>QF d m v b w mI HM.o.1 HM.o.2.1 HM.o.2.2 hv1 dh (fun x hx=>by rw[HAT.o]at hx;injection hx with hx;rw[← hx];exact hc') e
      have xQ:=aa hend;clear hend;go_wp2_with fail
      go_quiet ((go_at_call 112;exact qI (z8 _ (by omega) (by omega) _)))
      go_wp2_with fail
      go_ret;exact xQ.o _ _ rfl ((bR.o.drewN _).QN _) (grownBy.setCell' (grownBy.drewN' HG.o _) _ _)
  · have hlt2:¬ (p:Int)<(d.s.size:Int):=by omega
    have hend:=fun (e:Ending)(mI:World)=>QF d m v b w mI HM.o.1 HM.o.2.1 HM.o.2.2 hv1 dh (fun x hx=>by have h1:=(dm.1 hx).1;rw[pQ]at h1;omega) e
    have xQ:=aa hend;clear hend;clear hp;go_wp2_with fail
    go_quiet (fail)
    go_wp2_with fail
    go_ret;exact xQ.o _ _ rfl ((bR.o.drewN _).QN _) (grownBy.setCell' (grownBy.drewN' HG.o _) _ _)
end Go.Proofs.YtdnooocmlhcpkaaGreatDoor
namespace Go.Proofs
open Go.Shelf
def Tryz.YA:Go.Shelf.Ren:=⟨fun|137=>259|217=>262|266=>266|n=>n,fun|9=>9|5=>5|3=>3|n=>n,fun|n=>n⟩
theorem Tryz.Yz:Go.Proofs.Lays.n137 Tryz.prog Tryz.YA:={
 mixed:=by kernel_rfl
 f137:=Tryz.func259.trans (congrArg some (by kernel_rfl))
 f217:=Tryz.func262.trans (congrArg some (by kernel_rfl))
 f266:=Tryz.func266.trans (congrArg some (by kernel_rfl))
 t3:=Tryz.underlying3
 a3:=Tryz.isAgg3
 z3:=Tryz.sizeOf3
 v3:=Tryz.zeroValue3
 t5:=Tryz.underlying5
 a5:=Tryz.isAgg5
 z5:=Tryz.sizeOf5
 v5:=Tryz.zeroValue5
 t9:=Tryz.underlying9
 a9:=Tryz.isAgg9
 z9:=Tryz.sizeOf9
 v9:=Tryz.zeroValue9 }
open Go.RowKit in
theorem Tryz.strings_IndexByte (s:ByteArray)(c:Int)(w:World) :
 Calls Tryz.prog 259 #[.string s,.int .u8 c] w fun e w'=>e = .returned (.int .i64 (Lib.indexByte s.data.toList c.toNat.toUInt8))∧w'=w:=Any.strings_IndexByte Tryz.Yz s c w
def Tryz.YG:Go.Shelf.Ren:=⟨fun|171=>105|243=>139|246=>178|283=>205|284=>206|285=>207|286=>208|129=>228|317=>227|318=>229|319=>230|320=>231|337=>243|338=>244|n=>n,fun|3=>3|9=>9|2=>2|4=>4|171=>228|0=>0|53=>109|37=>22|5=>5|173=>231|212=>242|51=>243|20=>20|213=>244|46=>97|232=>264|233=>265|n=>n,fun|17=>3|18=>6|19=>7|n=>n⟩
theorem Tryz.YF:Go.Proofs.LaysM.n171 Tryz.prog Tryz.YG:={
 mixed:=by kernel_rfl
 f129:=Tryz.func228.trans (congrArg some (by kernel_rfl))
 f171:=Tryz.func105.trans (congrArg some (by kernel_rfl))
 f243:=Tryz.func139.trans (congrArg some (by kernel_rfl))
 f246:=Tryz.func178.trans (congrArg some (by kernel_rfl))
 f283:=Tryz.func205.trans (congrArg some (by kernel_rfl))
 f284:=Tryz.func206.trans (congrArg some (by kernel_rfl))
 f285:=Tryz.func207.trans (congrArg some (by kernel_rfl))
 f286:=Tryz.func208.trans (congrArg some (by kernel_rfl))
 f317:=Tryz.func227.trans (congrArg some (by kernel_rfl))
 f318:=Tryz.func229.trans (congrArg some (by kernel_rfl))
 f319:=Tryz.func230.trans (congrArg some (by kernel_rfl))
 f320:=Tryz.func231.trans (congrArg some (by kernel_rfl))
 f337:=Tryz.func243.trans (congrArg some (by kernel_rfl))
 f338:=Tryz.func244.trans (congrArg some (by kernel_rfl))
 t0:=Tryz.underlying0
 a0:=Tryz.isAgg0
 z0:=Tryz.sizeOf0
 v0:=Tryz.zeroValue0
 t2:=Tryz.underlying2
 a2:=Tryz.isAgg2
 z2:=Tryz.sizeOf2
 v2:=Tryz.zeroValue2
 t3:=Tryz.underlying3
 a3:=Tryz.isAgg3
 z3:=Tryz.sizeOf3
 v3:=Tryz.zeroValue3
 t4:=Tryz.underlying4
 a4:=Tryz.isAgg4
 z4:=Tryz.sizeOf4
 v4:=Tryz.zeroValue4
 t5:=Tryz.underlying5
 a5:=Tryz.isAgg5
 z5:=Tryz.sizeOf5
 v5:=Tryz.zeroValue5
 t9:=Tryz.underlying9
 a9:=Tryz.isAgg9
 z9:=Tryz.sizeOf9
 v9:=Tryz.zeroValue9
 t20:=Tryz.underlying20
 a20:=Tryz.isAgg20
 z20:=Tryz.sizeOf20
 v20:=Tryz.zeroValue20
 t37:=Tryz.underlying22
 a37:=Tryz.isAgg22
 z37:=Tryz.sizeOf22
 v37:=Tryz.zeroValue22
 t46:=Tryz.underlying97
 a46:=Tryz.isAgg97
 z46:=Tryz.sizeOf97
 v46:=Tryz.zeroValue97
 t51:=Tryz.underlying243
 a51:=Tryz.isAgg243
 z51:=Tryz.sizeOf243
 v51:=Tryz.zeroValue243
 t53:=Tryz.underlying109
 a53:=Tryz.isAgg109
 z53:=Tryz.sizeOf109
 v53:=Tryz.zeroValue109
 t171:=Tryz.underlying228
 a171:=Tryz.isAgg228
 z171:=Tryz.sizeOf228
 v171:=Tryz.zeroValue228
 t173:=Tryz.underlying231
 a173:=Tryz.isAgg231
 z173:=Tryz.sizeOf231
 v173:=Tryz.zeroValue231
 t212:=Tryz.underlying242
 a212:=Tryz.isAgg242
 z212:=Tryz.sizeOf242
 v212:=Tryz.zeroValue242
 t213:=Tryz.underlying244
 a213:=Tryz.isAgg244
 z213:=Tryz.sizeOf244
 t232:=Tryz.underlying264
 a232:=Tryz.isAgg264
 z232:=Tryz.sizeOf264
 v232:=Tryz.zeroValue264
 t233:=Tryz.underlying265
 a233:=Tryz.isAgg265
 z233:=Tryz.sizeOf265
 v233:=Tryz.zeroValue265
 g17:=by kernel_rfl
 g18:=by kernel_rfl
 g19:=by kernel_rfl
 i0:=by kernel_rfl
 i2:=by kernel_rfl
 i3:=by kernel_rfl
 i4:=by kernel_rfl
 i5:=by kernel_rfl
 i9:=by kernel_rfl
 i20:=by kernel_rfl
 i37:=by kernel_rfl
 i46:=by kernel_rfl
 i51:=by kernel_rfl
 i53:=by kernel_rfl
 i171:=by kernel_rfl
 i173:=by kernel_rfl
 i212:=by kernel_rfl
 i232:=by kernel_rfl
 i233:=by kernel_rfl
 m17:=by kernel_rfl
 m18:=by kernel_rfl
 m19:=by kernel_rfl }
open Go.RowKit Go.Sort Go.Lib in
theorem Tryz.strconv_Itoa (n : Int) (h0 : -9223372036854775808 ≤ n) (h1 : n ≤ 9223372036854775807) (w : World) (htab : Lib.TabIs Tryz.prog w "internal/strconv.uint64pow10" .u64 Lib.pow10Tab) :
 Calls Tryz.prog 105 #[.int .i64 n] w fun e w'=>e = .returned (.string ⟨(Lib.itoa n).toArray⟩)∧∃k os,w'=grow (w.drewN k) os:=Any.strconv_Itoa Tryz.YF n h0 h1 w htab
def Tryz.YE:Go.Shelf.Ren:=⟨fun|172=>138|244=>176|245=>177|247=>200|279=>201|280=>202|281=>203|282=>204|287=>224|316=>225|171=>105|205=>226|321=>241|322=>242|243=>139|246=>178|283=>205|284=>206|285=>207|286=>208|129=>228|317=>227|318=>229|319=>230|320=>231|337=>243|338=>244|n=>n,fun|9=>9|3=>3|75=>179|76=>180|4=>4|5=>5|167=>222|37=>22|0=>0|85=>223|2=>2|168=>225|53=>109|175=>236|46=>97|210=>239|127=>185|145=>256|143=>254|21=>21|171=>228|173=>231|212=>242|51=>243|20=>20|213=>244|232=>264|233=>265|80=>143|n=>n,fun|15=>1|16=>2|17=>3|18=>6|19=>7|n=>n⟩
theorem Tryz.IX:Go.Proofs.LaysC.n172 Tryz.prog Tryz.YE:={
 mixed:=by kernel_rfl
 f129:=Tryz.func228.trans (congrArg some (by kernel_rfl))
 f171:=Tryz.func105.trans (congrArg some (by kernel_rfl))
 f172:=Tryz.func138.trans (congrArg some (by kernel_rfl))
 f205:=Tryz.func226.trans (congrArg some (by kernel_rfl))
 f243:=Tryz.func139.trans (congrArg some (by kernel_rfl))
 f244:=Tryz.func176.trans (congrArg some (by kernel_rfl))
 f245:=Tryz.func177.trans (congrArg some (by kernel_rfl))
 f246:=Tryz.func178.trans (congrArg some (by kernel_rfl))
 f247:=Tryz.func200.trans (congrArg some (by kernel_rfl))
 f279:=Tryz.func201.trans (congrArg some (by kernel_rfl))
 f280:=Tryz.func202.trans (congrArg some (by kernel_rfl))
 f281:=Tryz.func203.trans (congrArg some (by kernel_rfl))
 f282:=Tryz.func204.trans (congrArg some (by kernel_rfl))
 f283:=Tryz.func205.trans (congrArg some (by kernel_rfl))
 f284:=Tryz.func206.trans (congrArg some (by kernel_rfl))
 f285:=Tryz.func207.trans (congrArg some (by kernel_rfl))
 f286:=Tryz.func208.trans (congrArg some (by kernel_rfl))
 f287:=Tryz.func224.trans (congrArg some (by kernel_rfl))
 f316:=Tryz.func225.trans (congrArg some (by kernel_rfl))
 f317:=Tryz.func227.trans (congrArg some (by kernel_rfl))
 f318:=Tryz.func229.trans (congrArg some (by kernel_rfl))
 f319:=Tryz.func230.trans (congrArg some (by kernel_rfl))
 f320:=Tryz.func231.trans (congrArg some (by kernel_rfl))
 f321:=Tryz.func241.trans (congrArg some (by kernel_rfl))
 f322:=Tryz.func242.trans (congrArg some (by kernel_rfl))
 f337:=Tryz.func243.trans (congrArg some (by kernel_rfl))
 f338:=Tryz.func244.trans (congrArg some (by kernel_rfl))
 t0:=Tryz.underlying0
 a0:=Tryz.isAgg0
 z0:=Tryz.sizeOf0
 v0:=Tryz.zeroValue0
 t2:=Tryz.underlying2
 a2:=Tryz.isAgg2
 z2:=Tryz.sizeOf2
 v2:=Tryz.zeroValue2
 t3:=Tryz.underlying3
 a3:=Tryz.isAgg3
 z3:=Tryz.sizeOf3
 v3:=Tryz.zeroValue3
 t4:=Tryz.underlying4
 a4:=Tryz.isAgg4
 z4:=Tryz.sizeOf4
 v4:=Tryz.zeroValue4
 t5:=Tryz.underlying5
 a5:=Tryz.isAgg5
 z5:=Tryz.sizeOf5
 v5:=Tryz.zeroValue5
 t9:=Tryz.underlying9
 a9:=Tryz.isAgg9
 z9:=Tryz.sizeOf9
 v9:=Tryz.zeroValue9
 t20:=Tryz.underlying20
 a20:=Tryz.isAgg20
 z20:=Tryz.sizeOf20
 v20:=Tryz.zeroValue20
 t21:=Tryz.underlying21
 a21:=Tryz.isAgg21
 z21:=Tryz.sizeOf21
 v21:=Tryz.zeroValue21
 t37:=Tryz.underlying22
 a37:=Tryz.isAgg22
 z37:=Tryz.sizeOf22
 v37:=Tryz.zeroValue22
 t46:=Tryz.underlying97
 a46:=Tryz.isAgg97
 z46:=Tryz.sizeOf97
 v46:=Tryz.zeroValue97
 t51:=Tryz.underlying243
 a51:=Tryz.isAgg243
 z51:=Tryz.sizeOf243
 v51:=Tryz.zeroValue243
 t53:=Tryz.underlying109
 a53:=Tryz.isAgg109
 z53:=Tryz.sizeOf109
 v53:=Tryz.zeroValue109
 t75:=Tryz.underlying179
 a75:=Tryz.isAgg179
 z75:=Tryz.sizeOf179
 v75:=Tryz.zeroValue179
 t76:=Tryz.underlying180
 a76:=Tryz.isAgg180
 z76:=Tryz.sizeOf180
 v76:=Tryz.zeroValue180
 t85:=Tryz.underlying223
 a85:=Tryz.isAgg223
 z85:=Tryz.sizeOf223
 v85:=Tryz.zeroValue223
 t127:=Tryz.underlying185
 a127:=Tryz.isAgg185
 z127:=Tryz.sizeOf185
 v127:=Tryz.zeroValue185
 t143:=Tryz.underlying254
 a143:=Tryz.isAgg254
 z143:=Tryz.sizeOf254
 v143:=Tryz.zeroValue254
 t145:=Tryz.underlying256
 a145:=Tryz.isAgg256
 z145:=Tryz.sizeOf256
 v145:=Tryz.zeroValue256
 t167:=Tryz.underlying222
 a167:=Tryz.isAgg222
 z167:=Tryz.sizeOf222
 v167:=Tryz.zeroValue222
 t168:=Tryz.underlying225
 a168:=Tryz.isAgg225
 z168:=Tryz.sizeOf225
 v168:=Tryz.zeroValue225
 t171:=Tryz.underlying228
 a171:=Tryz.isAgg228
 z171:=Tryz.sizeOf228
 v171:=Tryz.zeroValue228
 t173:=Tryz.underlying231
 a173:=Tryz.isAgg231
 z173:=Tryz.sizeOf231
 v173:=Tryz.zeroValue231
 t175:=Tryz.underlying236
 a175:=Tryz.isAgg236
 z175:=Tryz.sizeOf236
 v175:=Tryz.zeroValue236
 t210:=Tryz.underlying239
 a210:=Tryz.isAgg239
 z210:=Tryz.sizeOf239
 v210:=Tryz.zeroValue239
 t212:=Tryz.underlying242
 a212:=Tryz.isAgg242
 z212:=Tryz.sizeOf242
 v212:=Tryz.zeroValue242
 t213:=Tryz.underlying244
 a213:=Tryz.isAgg244
 z213:=Tryz.sizeOf244
 t232:=Tryz.underlying264
 a232:=Tryz.isAgg264
 z232:=Tryz.sizeOf264
 v232:=Tryz.zeroValue264
 t233:=Tryz.underlying265
 a233:=Tryz.isAgg265
 z233:=Tryz.sizeOf265
 v233:=Tryz.zeroValue265
 g15:=by kernel_rfl
 g16:=by kernel_rfl
 g17:=by kernel_rfl
 g18:=by kernel_rfl
 g19:=by kernel_rfl
 t80:=Tryz.underlying143
 a80:=Tryz.isAgg143
 z80:=Tryz.sizeOf143
 v80:=Tryz.zeroValue143
 i0:=by kernel_rfl
 i2:=by kernel_rfl
 i3:=by kernel_rfl
 i4:=by kernel_rfl
 i5:=by kernel_rfl
 i9:=by kernel_rfl
 i20:=by kernel_rfl
 i21:=by kernel_rfl
 i37:=by kernel_rfl
 i46:=by kernel_rfl
 i51:=by kernel_rfl
 i53:=by kernel_rfl
 i75:=by kernel_rfl
 i76:=by kernel_rfl
 i80:=by kernel_rfl
 i85:=by kernel_rfl
 i127:=by kernel_rfl
 i143:=by kernel_rfl
 i145:=by kernel_rfl
 i167:=by kernel_rfl
 i168:=by kernel_rfl
 i171:=by kernel_rfl
 i173:=by kernel_rfl
 i175:=by kernel_rfl
 i210:=by kernel_rfl
 i212:=by kernel_rfl
 i232:=by kernel_rfl
 i233:=by kernel_rfl
 m15:=by kernel_rfl
 m16:=by kernel_rfl
 m17:=by kernel_rfl
 m18:=by kernel_rfl
 m19:=by kernel_rfl
 c0:=by kernel_rfl
 c2:=by kernel_rfl
 c3:=by kernel_rfl
 c4:=by kernel_rfl
 c5:=by kernel_rfl
 c9:=by kernel_rfl
 c20:=by kernel_rfl
 c21:=by kernel_rfl
 c37:=by kernel_rfl
 c46:=by kernel_rfl
 c51:=by kernel_rfl
 c53:=by kernel_rfl
 c75:=by kernel_rfl
 c76:=by kernel_rfl
 c80:=by kernel_rfl
 c85:=by kernel_rfl
 c127:=by kernel_rfl
 c143:=by kernel_rfl
 c145:=by kernel_rfl
 c167:=by kernel_rfl
 c168:=by kernel_rfl
 c171:=by kernel_rfl
 c173:=by kernel_rfl
 c175:=by kernel_rfl
 c210:=by kernel_rfl
 c212:=by kernel_rfl
 c213:=by kernel_rfl
 c232:=by kernel_rfl
 c233:=by kernel_rfl }
open Go.RowKit in
theorem Tryz.strconv_Atoi_ok (s:ByteArray)(hmax:s.size≤9223372036854775806)(v:Int)(h:Lib.atoiAll s.data.toList = .ok v)(w:World) :
 Calls Tryz.prog 138 #[.string s] w fun e w'=>e = .returned (.tuple #[.int .i64 v,.nilIface])∧(w'=w∨∃t,w'=Lib.bytesWorld w 5 t):=Any.strconv_Atoi_ok Tryz.IX s hmax v h w
open Go.RowKit in
theorem Tryz.strconv_Atoi_syntax (s:ByteArray)(hlim:s.size≤281474976710656)(E:Lib.NumEnd Int)(hE:Lib.atoiAll s.data.toList=E)(hk:match E with | .ok _=>False | .range=>False|_=>True)(ev:Value)(w:World)(hv:w.cell? ⟨1,0,none⟩=some ev)(hev:ev = .nilIface∨∃te pe,ev = .iface te pe) :
 Calls Tryz.prog 138 #[.string s] w fun e w'=>∃N,e = .returned (.tuple #[.int .i64 (0),.iface 225 (.pointer (some ⟨N,0,none⟩))])∧w.heap.size≤N∧w'.heap[N]? = some (.cells #[.string ⟨#[65,116,111,105]⟩,.string s,ev] 239 (0,0))∧Below w.heap.size w w':=by
 cases E with
 | ok v=>exact hk.elim
 | range=>exact hk.elim
 | _=>exact Any.strconv_Atoi_syntax Tryz.IX s hlim hE ev w hv hev
open Go.RowKit in
theorem Tryz.strconv_Atoi_range (s:ByteArray)(hlim:s.size≤281474976710656)(h:Lib.atoiAll s.data.toList = .range)(ev:Value)(w:World)(hv:w.cell? ⟨2,0,none⟩=some ev)(hev:ev = .nilIface∨∃te pe,ev = .iface te pe) :
 Calls Tryz.prog 138 #[.string s] w fun e w'=>∃N,e = .returned (.tuple #[.int .i64 (Lib.atoiSat s.data.toList),.iface 225 (.pointer (some ⟨N,0,none⟩))])∧w.heap.size≤N∧w'.heap[N]? = some (.cells #[.string ⟨#[65,116,111,105]⟩,.string s,ev] 239 (0,0))∧Below w.heap.size w w':=Any.strconv_Atoi_range Tryz.IX s hlim h ev w hv hev
def Tryz.YD:Go.Shelf.Ren:=⟨fun|99=>245|206=>258|n=>n,fun|9=>9|4=>4|3=>3|n=>n,fun|n=>n⟩
theorem Tryz.YC:Go.Proofs.Lays.n99 Tryz.prog Tryz.YD:={
 mixed:=by kernel_rfl
 f99:=Tryz.func245.trans (congrArg some (by kernel_rfl))
 f206:=Tryz.func258.trans (congrArg some (by kernel_rfl))
 t3:=Tryz.underlying3
 a3:=Tryz.isAgg3
 z3:=Tryz.sizeOf3
 v3:=Tryz.zeroValue3
 t4:=Tryz.underlying4
 a4:=Tryz.isAgg4
 z4:=Tryz.sizeOf4
 v4:=Tryz.zeroValue4
 t9:=Tryz.underlying9
 a9:=Tryz.isAgg9
 z9:=Tryz.sizeOf9
 v9:=Tryz.zeroValue9 }
open Go.RowKit Go.Lib in
theorem Tryz.strings_HasPrefix (s p:ByteArray)(w:World) :
 Calls Tryz.prog 245 #[.string s,.string p] w fun e w'=>e = .returned (.bool (Lib.hasPrefix s.data.toList p.data.toList))∧w'=w:=Any.strings_HasPrefix Tryz.YC s p w
def Tryz.OO:Go.Shelf.Ren:=⟨fun|155=>194|154=>221|138=>237|165=>238|143=>239|166=>129|197=>240|169=>92|195=>253|218=>254|240=>160|241=>255|219=>256|260=>257|276=>193|277=>261|217=>262|225=>263|224=>264|267=>265|266=>266|314=>267|n=>n,fun|9=>9|3=>3|4=>4|72=>134|0=>0|76=>180|105=>251|21=>21|5=>5|70=>132|20=>20|37=>22|75=>179|127=>185|164=>213|46=>97|119=>268|139=>271|138=>270|146=>272|51=>243|80=>143|n=>n,fun|1=>8|3=>9|4=>10|n=>n⟩
theorem Tryz.YB:Go.Proofs.Lays.n155 Tryz.prog Tryz.OO:={
 mixed:=by kernel_rfl
 f138:=Tryz.func237.trans (congrArg some (by kernel_rfl))
 f143:=Tryz.func239.trans (congrArg some (by kernel_rfl))
 f154:=Tryz.func221.trans (congrArg some (by kernel_rfl))
 f155:=Tryz.func194.trans (congrArg some (by kernel_rfl))
 f165:=Tryz.func238.trans (congrArg some (by kernel_rfl))
 f166:=Tryz.func129.trans (congrArg some (by kernel_rfl))
 f169:=Tryz.func92.trans (congrArg some (by kernel_rfl))
 f195:=Tryz.func253.trans (congrArg some (by kernel_rfl))
 f197:=Tryz.func240.trans (congrArg some (by kernel_rfl))
 f217:=Tryz.func262.trans (congrArg some (by kernel_rfl))
 f218:=Tryz.func254.trans (congrArg some (by kernel_rfl))
 f219:=Tryz.func256.trans (congrArg some (by kernel_rfl))
 f224:=Tryz.func264.trans (congrArg some (by kernel_rfl))
 f225:=Tryz.func263.trans (congrArg some (by kernel_rfl))
 f240:=Tryz.func160.trans (congrArg some (by kernel_rfl))
 f241:=Tryz.func255.trans (congrArg some (by kernel_rfl))
 f260:=Tryz.func257.trans (congrArg some (by kernel_rfl))
 f266:=Tryz.func266.trans (congrArg some (by kernel_rfl))
 f267:=Tryz.func265.trans (congrArg some (by kernel_rfl))
 f276:=Tryz.func193.trans (congrArg some (by kernel_rfl))
 f277:=Tryz.func261.trans (congrArg some (by kernel_rfl))
 f314:=Tryz.func267.trans (congrArg some (by kernel_rfl))
 t0:=Tryz.underlying0
 a0:=Tryz.isAgg0
 z0:=Tryz.sizeOf0
 v0:=Tryz.zeroValue0
 t3:=Tryz.underlying3
 a3:=Tryz.isAgg3
 z3:=Tryz.sizeOf3
 v3:=Tryz.zeroValue3
 t4:=Tryz.underlying4
 a4:=Tryz.isAgg4
 z4:=Tryz.sizeOf4
 v4:=Tryz.zeroValue4
 t5:=Tryz.underlying5
 a5:=Tryz.isAgg5
 z5:=Tryz.sizeOf5
 v5:=Tryz.zeroValue5
 t9:=Tryz.underlying9
 a9:=Tryz.isAgg9
 z9:=Tryz.sizeOf9
 v9:=Tryz.zeroValue9
 t20:=Tryz.underlying20
 a20:=Tryz.isAgg20
 z20:=Tryz.sizeOf20
 v20:=Tryz.zeroValue20
 t21:=Tryz.underlying21
 a21:=Tryz.isAgg21
 z21:=Tryz.sizeOf21
 v21:=Tryz.zeroValue21
 t37:=Tryz.underlying22
 a37:=Tryz.isAgg22
 z37:=Tryz.sizeOf22
 v37:=Tryz.zeroValue22
 t46:=Tryz.underlying97
 a46:=Tryz.isAgg97
 z46:=Tryz.sizeOf97
 v46:=Tryz.zeroValue97
 t51:=Tryz.underlying243
 a51:=Tryz.isAgg243
 z51:=Tryz.sizeOf243
 v51:=Tryz.zeroValue243
 t70:=Tryz.underlying132
 a70:=Tryz.isAgg132
 z70:=Tryz.sizeOf132
 v70:=Tryz.zeroValue132
 t72:=Tryz.underlying134
 a72:=Tryz.isAgg134
 z72:=Tryz.sizeOf134
 v72:=Tryz.zeroValue134
 t75:=Tryz.underlying179
 a75:=Tryz.isAgg179
 z75:=Tryz.sizeOf179
 v75:=Tryz.zeroValue179
 t76:=Tryz.underlying180
 a76:=Tryz.isAgg180
 z76:=Tryz.sizeOf180
 v76:=Tryz.zeroValue180
 t105:=Tryz.underlying251
 a105:=Tryz.isAgg251
 z105:=Tryz.sizeOf251
 v105:=Tryz.zeroValue251
 t119:=Tryz.underlying268
 a119:=Tryz.isAgg268
 z119:=Tryz.sizeOf268
 t127:=Tryz.underlying185
 a127:=Tryz.isAgg185
 z127:=Tryz.sizeOf185
 v127:=Tryz.zeroValue185
 t138:=Tryz.underlying270
 a138:=Tryz.isAgg270
 z138:=Tryz.sizeOf270
 v138:=Tryz.zeroValue270
 t139:=Tryz.underlying271
 a139:=Tryz.isAgg271
 z139:=Tryz.sizeOf271
 v139:=Tryz.zeroValue271
 t146:=Tryz.underlying272
 a146:=Tryz.isAgg272
 z146:=Tryz.sizeOf272
 v146:=Tryz.zeroValue272
 t164:=Tryz.underlying213
 a164:=Tryz.isAgg213
 z164:=Tryz.sizeOf213
 v164:=Tryz.zeroValue213
 g1:=by kernel_rfl
 g3:=by kernel_rfl
 g4:=by kernel_rfl }
theorem Tryz.RZ:Builder.Extra Tryz.prog Tryz.OO:={
 sizeBuilder:=by kernel_rfl
 liesBuilder:=by kernel_rfl
 t5:=Tryz.underlying5
 a5:=Tryz.isAgg5
 z5:=Tryz.sizeOf5
 v5:=Tryz.zeroValue5
 infoByte:=by kernel_rfl
 cellsByte:=by kernel_rfl
 sizeByte:=by kernel_rfl
 neB5:=by decide }
open Go.RowKit Go.Lib in
theorem Tryz.strings_ReplaceAll (s old new:ByteArray)(m:Int)(w:World)(hs:s.size<4294967281)(hm:w.cell? ⟨8,0,none⟩=some (.int .i64 m))(h1:1≤old.size)(hlen:s.size+Lib.countB s old*new.size≤140737488355328) :
 Calls Tryz.prog 194 #[.string s,.string old,.string new] w fun e w' =>
  e = .returned (.string ⟨(Lib.replaceAll s.data.toList old.data.toList new.data.toList).toArray⟩)∧Below w.heap.size w w':=Any.strings_ReplaceAll Tryz.YB Tryz.RZ s old new m w hs hm h1 hlen
end Go.Proofs
namespace Go.Proofs.YtdnooocmlhcpkaaGreatDoor
open Go.RowKit
theorem Oq:∀(l:List UInt8),Lib.indexByte l 33=if ((l.map (fun b=>(b.toNat:Int))).takeWhile iX).length=l.length then -1 else (((l.map (fun b=>(b.toNat:Int))).takeWhile iX).length:Int)
 | []=>rfl
 | x :: l=>by
   have ih:=Oq l;unfold Lib.indexByte;by_cases hx:x=33
   · subst hx
     have hne:iX ((33:UInt8).toNat:Int)=false:=by decide
     rw[jb,List.takeWhile_cons,hne];simp
   · have hne:iX (x.toNat:Int)=true:=by
      unfold iX;rw[decide_eq_true_iff];intro h;apply hx;apply UInt8.toNat_inj.1;show x.toNat=33;omega
     have hb:(x == (33:UInt8))=false:=by rw[beq_eq_false_iff_ne];exact hx
     rw[hb,jb,List.takeWhile_cons,hne,if_pos rfl,aK,aK,ih];obtain⟨n,hn⟩:∃n,((l.map (fun b=>(b.toNat:Int))).takeWhile iX).length=n:=⟨_,rfl⟩;rw[hn];by_cases h:n=l.length
     · have h2:n+1=l.length+1:=by omega
       rw[if_pos h,if_pos h2];rfl
     · have h2:¬ n+1=l.length+1:=by omega
       rw[if_neg h,if_neg h2];have:((n:Int) == -1)=false:=by rw[beq_eq_false_iff_ne];omega
       rw[this];simp
theorem XW (d:Rd):Lib.indexByte d.s.data.toList 33=if d.bL.length=d.s.size then -1 else (d.bL.length:Int):=by
 rw[Oq];unfold Rd.bL sb;rw[← oI];have:d.s.toList.length=d.s.size:=by rw[oI];rfl
 rw[this]
theorem JW (d:Rd):(sb d.s).take d.bL.length=d.bL:=by
 have e:=take_split iX (sb d.s);have h:(d.bL++(sb d.s).drop d.bL.length).take d.bL.length=d.bL:=List.take_left;have e2:d.bL++(sb d.s).drop d.bL.length=sb d.s:=e;rw[e2]at h;exact h
theorem JV (d:Rd)(h:¬ d.bL.length=d.s.size):d.bL.length<d.s.size:=by
 have e:=congrArg List.length (take_split iX (sb d.s));rw[aj,bC]at e;unfold Rd.bL at h ⊢;omega
theorem acX (b:Nat)(d:Rd)(w:World)(h:bS w b d)(_hs:d.s.size≤1000000) :
 Calls Tryz.prog 247 #[.pointer (some ⟨b,0,none⟩)] w (Part d.kL b w):=by
 obtain⟨c0,c1,c2,c3,c4,c5,c6⟩:=h.facts;have f1:=h.frozen 1;have f2:=h.frozen 2;clear c3 c4 c5 c6;have HR:=aa h;clear h;have hix:=XW d;by_cases hno:d.bL.length=d.s.size
 · have hf:d.kL=some d:=by unfold Rd.kL;rw[if_pos hno]
   rw[if_pos hno]at hix;have HF:=aa hf;clear hf hno;have Dq:=aa hix;clear hix;go_enter Tryz.func247,Tryz.ntmps247;go_wp2_with (go_at_call 259;((with_reducible refine(Tryz.strings_IndexByte d.s 33 _).mono ?_);rintro e w1 ⟨rfl,rfl⟩;(rw[show(33:Int).toNat.toUInt8=33 from rfl,Dq.o])))
   go_ret;exact⟨grownBy.refl' _ _,.inl ⟨d,HF.o,rfl,HR.o⟩⟩
 · have hlt:=JV d hno
   rw[if_neg hno]at hix;obtain⟨i,hi⟩:∃i:Nat,d.bL.length=i:=⟨_,rfl⟩;rw[hi]at hix hlt;have hf:d.kL=if fF d.bL=true then some { d with sh:=strOfNums d.bL,k:=i+1 }else none:=by unfold Rd.kL;rw[if_neg hno,hi]
   have hcut:d.s.extract 0 i=strOfNums d.bL:=by
    rw[← JW,hi, ← jU (d.s.extract 0 i)];congr 1;unfold sb;rw[← List.map_take];congr 1;simp[ByteArray.data_extract]
   have hsz:(strOfNums d.bL).size≤1000000:=by rw[strOfNums_size];omega
   have hb:sb (strOfNums d.bL)=d.bL:=gK _ (fun x hx=>uh d.s x (by rw[← JW]at hx;exact List.mem_of_mem_take hx));have Dq:=aa hix;clear hix;have HF:=aa hf;clear hf;have KP:=aa hcut;clear hcut;have HB:=aa hb;clear hb;have hile:(i:Int)≤(d.s.size:Int):=by omega
   have hi0:(0:Int)≤(i:Int):=by omega
   clear hno hi;go_enter Tryz.func247,Tryz.ntmps247;by_cases hn:fF d.bL=true
   · have hf2:d.kL=some { d with sh:=strOfNums d.bL,k:=i+1 }:=by rw[HF.o,if_pos hn]
     have bI:=aa hf2;clear hf2
     go_wp2_with (first
      | (go_at_call 259;((with_reducible refine(Tryz.strings_IndexByte d.s 33 _).mono ?_);rintro e w1 ⟨rfl,rfl⟩;(rw[show(33:Int).toNat.toUInt8=33 from rfl,Dq.o])))
      | (go_at_call 73;rw[KP.o];((with_reducible refine(Ct _ _ ?_).mono ?_);(first|omega|skip);rintro e w2 ⟨rfl,rfl⟩;rw[HB.o,hn])))
     go_ret;exact⟨grownBy.setCell' (grownBy.setCell' (grownBy.refl' _ _) _ _) _ _,.inl ⟨_,bI.o,rfl,(HR.o.CJ (strOfNums d.bL)).rM (i+1)⟩⟩
   · have hf2:d.kL=none:=by rw[HF.o,if_neg hn]
     have hn':fF d.bL=false:=by simpa using hn
     have bI:=aa hf2;clear hf2 hn
     go_wp2_with (first
      | (go_at_call 259;((with_reducible refine(Tryz.strings_IndexByte d.s 33 _).mono ?_);rintro e w1 ⟨rfl,rfl⟩;(rw[show(33:Int).toNat.toUInt8=33 from rfl,Dq.o])))
      | (go_at_call 73;rw[KP.o];((with_reducible refine(Ct _ _ ?_).mono ?_);(first|omega|skip);rintro e w2 ⟨rfl,rfl⟩;rw[HB.o,hn'])))
     go_ret;exact⟨grownBy.setCell' (grownBy.setCell' (grownBy.refl' _ _) _ _) _ _,.inr ⟨bI.o,rfl⟩⟩
theorem Uh (b g n:Nat)(f:Nat→FuncId)(run:Nat→Rd→Option Rd)(w:World)(_hn:n≤100)(hgb:g≠b)(hg:g<w.heap.size)
 (hcall:∀j,j<n→∀args (v:World),(callFunc (f j) args).run Tryz.prog v = .ok (.enter (f j) args) v)
 (hcell:∀j,j<n→w.cell? ⟨g,j,none⟩=some (.func (.func (f j)) #[.pointer (some ⟨b,0,none⟩)] #[]))
 (P:Nat→Rd→Prop)(d:Rd)(h0:P 0 d)(hr:bS w b d)
 (hstep:∀j,j<n→∀d (w:World),P j d→bS w b d→(∀d',run j d=some d'→P (j+1) d')∧Calls Tryz.prog (f j) #[.pointer (some ⟨b,0,none⟩)] w (Part (run j d) b w))
 (o:Option Rd)(hend:∀d',P n d'→o=some d')(hbad:∀j d',j<n→P j d'→run j d'=none→o=none) :
 Calls Tryz.prog 246 #[.slice (some ⟨g,0,none⟩) n n] w (Part o b w):=by
 have HC:=aa hcall;clear hcall;have HL:=aa hcell;clear hcell;have HS:=aa hstep;clear hstep;have HE:=aa hend;clear hend;have HB:=aa hbad;clear hbad;have H0:=aa h0;clear h0;have HR:=aa hr;clear hr;go_enter Tryz.func246,Tryz.ntmps246;go_wp2_with fail
 go_loopw [7] (fun i wr=>∃(j:Nat)(d:Rd),i = .int .i64 j∧j≤n∧Hid (P j d)∧Hid (bS wr b d)∧Hid (w.grownBy wr (some b)))
  (fun i _=>n - (intOf i).toNat)
 case atStart=>exact⟨0,d,rfl,by omega,H0,HR,aa (grownBy.refl' _ _)⟩
 case round =>
  obtain⟨j,d,rfl,hj,HP,bR,HG⟩:=hrel;by_cases hlt:j<n
  · have hji:(j:Int)<(n:Int):=by omega
    have hce:wr.cell? ⟨g,j,none⟩=some (.func (.func (f j)) #[.pointer (some ⟨b,0,none⟩)] #[]):=by
     rw[MC HG.o (by exact hg) (by intro h;exact hgb (dX h))];exact HL.o j hlt
    have vN:=HC.o j hlt;obtain⟨fj,hfj⟩:∃fj,f j=fj:=⟨_,rfl⟩;rw[hfj]at hce vN;have KT:=aa hfj;clear hfj;cases hq:run j d with
    | some d' =>
      have HQ:=aa hq;clear hq;go_wp2_with fail
      have hs:=HS.o j hlt d wr HP.o bR.o;rw[KT.o,HQ.o]at hs;have dG:=aa (hs.1 d' rfl);refine hs.2.mono ?_;rintro e w1 ⟨hg1,⟨d2,h1,rfl,h3⟩|⟨h1,_⟩⟩
      · injection h1 with h1;subst h1
        have kU:=aa (grownBy.trans' HG.o hg1);clear hg1;have HR1:=aa h3;clear h3;clear hs;go_wp2_with fail
        go_roundw
        case rel=>exact⟨j+1,d',by go_num,by omega,dG,HR1,kU⟩
        case measure=>simp[intOf];omega
      · cases h1
    | none =>
      have HQ:=aa hq;clear hq;go_wp2_with fail
      have hs:=HS.o j hlt d wr HP.o bR.o;rw[KT.o,HQ.o]at hs;refine hs.2.mono ?_;rintro e w1 ⟨hg1,⟨d2,h1,_,_⟩|⟨_,rfl⟩⟩
      · cases h1
      · have kU:=aa (grownBy.trans' HG.o hg1);clear hg1
        clear hs;go_wp2_with fail
        go_ret;exact⟨kU.o,.inr ⟨HB.o j d hlt HP.o HQ.o,rfl⟩⟩
  · have hji:¬ (j:Int)<(n:Int):=by omega
    have hjn:j=n:=by omega
    have hen:=HE.o d (by rw[← hjn];exact HP.o);have FU:=aa hen;clear hen hjn;go_wp2_with fail
    go_ret;exact⟨HG.o,.inl ⟨d,FU.o,rfl,bR.o⟩⟩
def chain (run:Nat→Rd→Option Rd)(d:Rd):Nat→Option Rd
 | 0=>some d
 | j+1=>(chain run d j).bind (run j)
theorem MH (run:Nat→Rd→Option Rd)(d:Rd)(j:Nat)(h:chain run d j=none):∀m,chain run d (j+m)=none
 | 0=>h
 | m+1=>by show(chain run d (j+m)).bind (run (j+m))=none;rw[MH run d j h m];rfl
def wQ(f:Rd→Option Rd):Prop:=∀d d',d.k≤d.s.size→f d=some d'→d'.s=d.s∧d'.k≤d.s.size
theorem Yk:wQ Rd.kL:=by
 intro d d' hk h;unfold Rd.kL at h;by_cases h1:d.bL.length=d.s.size
 · rw[if_pos h1]at h;injection h with h;subst h;exact⟨rfl,hk⟩
 · rw[if_neg h1]at h
   have:=JV d h1;by_cases h2:fF d.bL=true
   · rw[if_pos h2]at h;injection h with h;subst h;exact⟨rfl,this⟩
   · rw[if_neg h2]at h;cases h
theorem EB (d:Rd)(hk:d.k≤d.s.size):d.k+(eD d.mark).length≤d.s.size:=by
 have h1:=congrArg List.length (I9 d);rw[aj,pQ]at h1;omega
theorem Yf:wQ Rd.wT:=by
 intro d d' hk h;unfold Rd.wT at h;injection h with h;subst h;exact⟨rfl,EB d hk⟩
theorem Yg:wQ Rd.wU:=by
 intro d d' hk h;unfold Rd.wU at h;injection h with h;subst h;exact⟨rfl,EB d hk⟩
theorem J3 (p:Int→Bool)(d:Rd)(hk:d.k≤d.s.size):d.k+(d.rest.takeWhile p).length≤d.s.size:=by
 have h1:=congrArg List.length (take_split p d.rest);rw[aj,pQ]at h1;omega
theorem Yh:wQ Rd.aI:=by
 intro d d' hk h;unfold Rd.aI at h;by_cases h2:iK (d.rest.takeWhile aG)=true
 · rw[if_pos h2]at h;injection h with h;subst h;exact⟨rfl,J3 aG d hk⟩
 · rw[if_neg h2]at h;cases h
theorem Yj:wQ Rd.row:=by
 intro d d' hk h;unfold Rd.row at h;by_cases h2:isRow (d.rest.takeWhile isNum)=true
 · rw[if_pos h2]at h;injection h with h;subst h;exact⟨rfl,J3 isNum d hk⟩
 · rw[if_neg h2]at h;cases h
theorem Yi:wQ Rd.fin:=by
 intro d d' hk h;unfold Rd.fin at h;by_cases h2:d.k=d.s.size
 · rw[if_pos h2]at h;injection h with h;subst h;exact⟨rfl,hk⟩
 · rw[if_neg h2]at h;cases h
theorem Ui (b g n:Nat)(f:Nat→FuncId)(run:Nat→Rd→Option Rd)(w:World)(hn:n≤100)(hgb:g≠b)(hg:g<w.heap.size)
 (hcall:∀j,j<n→∀args (v:World),(callFunc (f j) args).run Tryz.prog v = .ok (.enter (f j) args) v)
 (hcell:∀j,j<n→w.cell? ⟨g,j,none⟩=some (.func (.func (f j)) #[.pointer (some ⟨b,0,none⟩)] #[]))
 (d:Rd)(hr:bS w b d)(hs:d.s.size≤1000000)(hk:d.k≤d.s.size)
 (hkeep:∀j,j<n→wQ (run j))
 (Iq:∀j,j<n→∀d (w:World),bS w b d→d.s.size≤1000000→d.k≤d.s.size→Calls Tryz.prog (f j) #[.pointer (some ⟨b,0,none⟩)] w (Part (run j d) b w)) :
 Calls Tryz.prog 246 #[.slice (some ⟨g,0,none⟩) n n] w (Part (chain run d n) b w):=by
 refine Uh b g n f run w hn hgb hg hcall hcell (fun j e=>chain run d j=some e∧e.s=d.s∧e.k≤d.s.size) d ⟨rfl,rfl,hk⟩ hr ?_ _ ?_ ?_
 · rintro j hj e v ⟨h1,h2,h3⟩ nQ
   refine⟨?_,Iq j hj e v nQ (by rw[h2];exact hs) (by rw[h2];exact h3)⟩;intro e' he';obtain⟨k1,k2⟩:=hkeep j hj e e' (by rw[h2];exact h3) he';refine⟨?_,by rw[k1,h2],by rw[← h2];exact k2⟩;show(chain run d j).bind (run j)=some e';rw[h1];exact he'
 · rintro e ⟨h1,_,_⟩;exact h1
 · rintro j e hj ⟨h1,_,_⟩ h2
   have h3:chain run d (j+1)=none:=by show(chain run d j).bind (run j)=none;rw[h1];exact h2
   have:=MH run d (j+1) h3 (n - (j+1));rw[show j+1+(n - (j+1))=n from by omega]at this;exact this
theorem sM {w w1 w2:World}{r B:Nat}(hb:Below B w w1)(h:w1.grownBy w2 (some r))(hB:B≤w1.heap.size)(hr:B≤r):Below B w w2 :=
 hb.grown h hB (fun k hk=>by cases hk;exact hr)
theorem uQ(fn:Fn)(first cap:Array Value)(w:World):(Instr.makeFunc fn first cap).run Tryz.prog w = .ok (.func fn first cap) w:=rfl
def AO(s:ByteArray)(w:World):World:=w.alloc (.cells #[.string s,.int .i64 0,.string ⟨#[]⟩,.int .i64 0,.int .i64 0,.bool false,.bool false] 261)
def mv(f:FuncId)(b:Nat):Value := .func (.func f) #[.pointer (some ⟨b,0,none⟩)] #[]
def xM(s:ByteArray)(l:Array Value)(w:World):World:=(AO s w).alloc (.cells l 23)
theorem JZ(s:ByteArray)(w:World):(AO s w).heap.size=w.heap.size+1:=by unfold AO;simp
theorem QZ(s:ByteArray)(l:Array Value)(w:World):(xM s l w).heap.size=w.heap.size+1+1:=by unfold xM;rw[← JZ s w];simp
theorem aa7 (s:ByteArray)(l:Array Value)(w:World):bS (xM s l w) w.heap.size (Rd.start s):=by
 have h:bS (AO s w) w.heap.size (Rd.start s):=(jw w _).1;exact h.below ((ai _ _).alloc (ag _) _) h.lt
theorem UL(s:ByteArray)(l:Array Value)(w:World):Below w.heap.size w (xM s l w):=((ai _ _).alloc (ag _) _).alloc (by have:=JZ s w;unfold AO at this;omega) _
theorem Vg (s:ByteArray)(l:Array Value)(w:World)(L:List Value)(hl:l.toList=L)(j:Nat)(u:Value)(hj:L[j]? = some u):(xM s l w).cell? ⟨w.heap.size+1,j,none⟩=some u:=by
 have h:=fZ (w:=AO s w) l 23 L hl j u hj;rw[Addr.add_mid,Nat.zero_add,JZ]at h;exact h
theorem Uk (n:Nat)(f:Nat→FuncId)(run:Nat→Rd→Option Rd)(s:ByteArray)(w:World)(l:Array Value)(L:List Value)(hl:l.toList=L)(hn:n≤100)(hs:s.size≤1000000)
 (hcall:∀j,j<n→∀args (v:World),(callFunc (f j) args).run Tryz.prog v = .ok (.enter (f j) args) v)
 (hL:∀j,j<n→L[j]? = some (mv (f j) w.heap.size))
 (hkeep:∀j,j<n→wQ (run j))
 (Iq:∀j,j<n→∀b d (w:World),bS w b d→d.s.size≤1000000→d.k≤d.s.size→Calls Tryz.prog (f j) #[.pointer (some ⟨b,0,none⟩)] w (Part (run j d) b w)) :
 Calls Tryz.prog 246 #[.slice (some ⟨w.heap.size+1,0,none⟩) n n] (xM s l w) fun e w'=>Below w.heap.size w w'∧((∃d',chain run (Rd.start s) n=some d'∧e = .returned (.bool true)∧bS w' w.heap.size d')∨(chain run (Rd.start s) n=none∧e = .returned (.bool false))):=by
 refine(Ui w.heap.size (w.heap.size+1) n f run (xM s l w) hn (by omega) (by rw[QZ];omega) hcall (fun j hj=>Vg s l w L hl j _ (hL j hj)) (Rd.start s) (aa7 s l w) hs (cu _) hkeep (fun j hj d v=>Iq j hj w.heap.size d v)).mono ?_;rintro e w' ⟨h1,h2⟩;exact⟨sM (UL s l w) h1 (by rw[QZ];omega) (ag _),h2⟩
theorem VN:∀args (v:World),(callFunc 249 args).run Tryz.prog v = .ok (.enter 249 args) v:=Go.Proofs.enters_of Tryz.func249 (by kernel_rfl) rfl
theorem VO:∀args (v:World),(callFunc 252 args).run Tryz.prog v = .ok (.enter 252 args) v:=Go.Proofs.enters_of Tryz.func252 (by kernel_rfl) rfl
theorem VR:∀args (v:World),(callFunc 247 args).run Tryz.prog v = .ok (.enter 247 args) v:=Go.Proofs.enters_of Tryz.func247 (by kernel_rfl) rfl
theorem VL:∀args (v:World),(callFunc 248 args).run Tryz.prog v = .ok (.enter 248 args) v:=Go.Proofs.enters_of Tryz.func248 (by kernel_rfl) rfl
theorem VM:∀args (v:World),(callFunc 250 args).run Tryz.prog v = .ok (.enter 250 args) v:=Go.Proofs.enters_of Tryz.func250 (by kernel_rfl) rfl
theorem VQ:∀args (v:World),(callFunc 251 args).run Tryz.prog v = .ok (.enter 251 args) v:=Go.Proofs.enters_of Tryz.func251 (by kernel_rfl) rfl
def abx:Nat→Rd→Option Rd
 | 0=>Rd.kL
 | 1=>Rd.wT
 | 2=>Rd.aI
 | 3=>Rd.wU
 | 4=>Rd.row
 | _=>Rd.fin
def abd:Nat→FuncId
 | 0=>247
 | 1=>248
 | 2=>249
 | 3=>250
 | 4=>251
 | _=>252
theorem abH (s:ByteArray)(w:World)(hs:s.size≤1000000) :
 Calls Tryz.prog 246 #[.slice (some ⟨w.heap.size+1,0,none⟩) 6 6] (xM s #[mv 247 w.heap.size,mv 248 w.heap.size,mv 249 w.heap.size,mv 250 w.heap.size,mv 251 w.heap.size,mv 252 w.heap.size] w) fun e w'=>Below w.heap.size w w'∧((∃d',fO s=some d'∧e = .returned (.bool true)∧bS w' w.heap.size d')∨(fO s=none∧e = .returned (.bool false))):=by
 refine Uk 6 abd abx s w _ _ rfl (by omega) hs ?_ ?_ ?_ ?_
 · intro j hj
   match j,hj with
   | 0,_=>exact VR
   | 1,_=>exact VL
   | 2,_=>exact VN
   | 3,_=>exact VM
   | 4,_=>exact VQ
   | 5,_=>exact VO
 · intro j hj
   match j,hj with
   | 0,_=>rfl
   | 1,_=>rfl
   | 2,_=>rfl
   | 3,_=>rfl
   | 4,_=>rfl
   | 5,_=>rfl
 · intro j hj
   match j,hj with
   | 0,_=>exact Yk
   | 1,_=>exact Yf
   | 2,_=>exact Yh
   | 3,_=>exact Yg
   | 4,_=>exact Yj
   | 5,_=>exact Yi
 · intro j hj b d v h1 h2 h3
   match j,hj with
   | 0,_=>exact acX b d v h1 h2
   | 1,_=>exact T9 b d v h1 h2 h3
   | 2,_=>exact Vr b d v h1 h2 h3
   | 3,_=>exact Ua b d v h1 h2 h3
   | 4,_=>exact ab6 b d v h1 h2 h3
   | 5,_=>exact Wh b d v h1 h2 h3
theorem Mh {w w1:World}{a0 a1 a2 a3 a4:Value}(h:Below w.heap.size w w1):Below w.heap.size w (((((w1.setCell ⟨w.heap.size,0,none⟩ a0).setCell ⟨w.heap.size,1,none⟩ a1).setCell ⟨w.heap.size,2,none⟩ a2).setCell ⟨w.heap.size,3,none⟩ a3).setCell ⟨w.heap.size,4,none⟩ a4) :=
 ((((h.setCell (ag _) _).setCell (ag _) _).setCell (ag _) _).setCell (ag _) _).setCell (ag _) _
theorem Qg (s:ByteArray)(w:World)(_hs:s.size≤1000000) :
 Calls Tryz.prog 235 #[.string s] w fun e w'=>Says (sb s) e∧Below w.heap.size w w':=by
 have uQ:=uQ;have hall:=abH s (w.alloc (.cells #[.string ⟨#[]⟩,.int .i64 0,.int .i64 0,.bool false,.bool false] 45)) _hs;have hsz:(w.alloc (.cells #[.string ⟨#[]⟩,.int .i64 0,.int .i64 0,.bool false,.bool false] 45)).heap.size=w.heap.size+1:=by simp
 have hr0:=bV.new w ⟨#[]⟩ 0 0 false false;have hb0:Below w.heap.size w (w.alloc (.cells #[.string ⟨#[]⟩,.int .i64 0,.int .i64 0,.bool false,.bool false] 45)):=(ai _ _).alloc (ag _) _;rw[hsz]at hall;have jI:=aa hall;clear hall;have HR:=aa hr0;clear hr0;have HB0:=aa hb0;clear hb0;have jZ:=aa hsz;clear hsz;go_enter Tryz.func235,Tryz.ntmps235;go_wp2_with fail
 refine jI.o.mono ?_;rintro e w1 ⟨hb,⟨d',h1,rfl,h3⟩|⟨h1,rfl⟩⟩
 · have hr1:=HR.o.below hb (by omega)
   obtain⟨x0,x1,x2,x3,x4⟩:=hr1.facts;have f0:=frozen_of_row w1 w.heap.size 0 _ _ hr1;have f1:=frozen_of_row w1 w.heap.size 1 _ _ hr1;have f2:=frozen_of_row w1 w.heap.size 2 _ _ hr1;have f3:=frozen_of_row w1 w.heap.size 3 _ _ hr1;have f4:=frozen_of_row w1 w.heap.size 4 _ _ hr1;have hB:=HB0.o.trans (hb.mono (by omega));obtain⟨c0,c1,c2,c3,c4,c5,c6⟩:=h3.facts;clear c0 c1;have H1:=aa h1;clear h1;have H3:=aa h3;clear h3;have HB:=aa hB;clear hB hb;have HR1:=aa hr1;clear hr1;go_wp2_with fail
   obtain⟨r1,r2,r3⟩:=vX s d' H1.o
   (try simp only[Exit.inBlock,Exit.then])
   refine bodyPost_ret (v := .tuple #[.agg #[.string d'.sh,.int .i64 d'.c,.int .i64 d'.r,.bool d'.ac,.bool d'.ar],.bool true]) ?_ rfl ⟨.inl ⟨d'.sh,d'.c,d'.r,d'.ac,d'.ar,r1,r2,r3,rfl⟩, ?_⟩
   · rw[results_cell_tmp rfl]
     go_simp
   · exact Mh HB.o
 · have hr1:=HR.o.below hb (by omega)
   obtain⟨x0,x1,x2,x3,x4⟩:=hr1.facts;have f0:=frozen_of_row w1 w.heap.size 0 _ _ hr1;have f1:=frozen_of_row w1 w.heap.size 1 _ _ hr1;have f2:=frozen_of_row w1 w.heap.size 2 _ _ hr1;have f3:=frozen_of_row w1 w.heap.size 3 _ _ hr1;have f4:=frozen_of_row w1 w.heap.size 4 _ _ hr1;have hB:=HB0.o.trans (hb.mono (by omega));have H1:=aa h1;clear h1;have HB:=aa hB;clear hB hb;have HR1:=aa hr1;clear hr1;go_wp2_with fail
   have r1:=Aq s H1.o
   (try simp only[Exit.inBlock,Exit.then])
   refine bodyPost_ret (v := .tuple #[.agg #[.string ⟨#[]⟩,.int .i64 0,.int .i64 0,.bool false,.bool false],.bool false]) ?_ rfl ⟨.inr ⟨r1,rfl⟩, ?_⟩
   · rw[results_cell_tmp rfl]
     go_simp
   · exact Mh HB.o
theorem QJ:∀(n u:Nat),u<n→sb ⟨(Lib.decDigits u).toArray⟩=aF u:=by
 have CG:∀l:List UInt8,sb ⟨l.toArray⟩=l.map (fun b=>(b.toNat:Int)):=fun l=>rfl
 intro n
 induction n with
 | zero=>intro u h;omega
 | succ n ih =>
   intro u hu;rw[CG,Lib.decDigits];by_cases h:u<10
   · rw[dif_pos h,lg u h]
     simp only[jb,List.map_nil];rw[UInt8.toNat_ofNat_of_lt' (by show 48+u<256;omega)];congr 1
   · rw[dif_neg h,qC u h,iE, ← CG,ih (u / 10) (by omega)]
     simp only[jb,List.map_nil];rw[UInt8.toNat_ofNat_of_lt' (by show 48+u % 10<256;omega)];congr 1
theorem VF (u:Nat):(⟨(Lib.decDigits u).toArray⟩:ByteArray)=strOfNums (aF u):=by
 rw[← jU ⟨(Lib.decDigits u).toArray⟩,QJ (u+1) u (by omega)]
def jN (w : World) : Prop := Lib.TabIs Tryz.prog w "internal/strconv.uint64pow10" .u64 Lib.pow10Tab
theorem Na : Tryz.prog.globalNamed "internal/strconv.uint64pow10" = some 3 := by kernel_rfl
theorem jN.below {w w':World}(h:jN w)(hb:Below w.heap.size w w'):jN w':=by
 unfold jN Lib.TabIs World.var? at h ⊢;rw[Na]at h ⊢;simp only[Option.bind_some]at h ⊢;rw[hb.block _ ?_]
 · exact h
 · rcases Nat.lt_or_ge 3 w.heap.size with h'|h'
   · exact h'
   · rw[Array.getElem?_eq_none h']at h;cases h
theorem below_grow (w:World)(k:Nat)(os:Array Obj):Below w.heap.size w (Sort.grow (w.drewN k) os):=by
 refine⟨rfl,rfl,rfl, ?_, ?_⟩
 · show w.heap.size≤(w.heap++os).size
   simp
 · intro j hj
   show(w.heap++os)[j]? = w.heap[j]?;rw[Array.getElem?_append_left hj]
theorem IK (n:Nat)(_h1:n≤9223372036854775807)(w:World)(ht:jN w) :
 Calls Tryz.prog 105 #[.int .i64 (n:Int)] w fun e w'=>e = .returned (.string (strOfNums (aF n)))∧Below w.heap.size w w':=by
 refine(Tryz.strconv_Itoa (n:Int) (by omega) (by omega) w ht).mono ?_;rintro e w' ⟨rfl,k,os,rfl⟩;refine⟨?_,below_grow w k os⟩;have:Lib.itoa (n:Int)=Lib.decDigits n:=by unfold Lib.itoa;rw[if_neg (by omega)];rfl
 rw[this,VF]
theorem Zx (n:Int)(h:n<0):(⟨(Lib.itoa n).toArray⟩:ByteArray)=strOfNums (kZ n):=by
 have CG:∀l:List UInt8,sb ⟨l.toArray⟩=l.map (fun b=>(b.toNat:Int)):=fun l=>rfl
 rw[← jU ⟨(Lib.itoa n).toArray⟩];congr 1;unfold Lib.itoa kZ;rw[if_pos h,if_pos h,CG,jb, ← CG,QJ (n.natAbs+1) _ (by omega)];rfl
theorem X9 (n:Int)(_h0 : -9223372036854775808≤n)(_h1:n≤9223372036854775807)(w:World)(ht:jN w) :
 Calls Tryz.prog 105 #[.int .i64 n] w fun e w'=>e = .returned (.string (strOfNums (kZ n)))∧Below w.heap.size w w':=by
 by_cases h:n<0
 · refine(Tryz.strconv_Itoa n (by omega) (by omega) w ht).mono ?_
   rintro e w' ⟨rfl,k,os,rfl⟩;exact⟨by rw[Zx n h],below_grow w k os⟩
 · obtain⟨m,rfl⟩:∃m:Nat,n=m:=⟨n.toNat,by omega⟩
   have hd:kZ (m:Int)=aF m:=by unfold kZ;rw[if_neg (by omega)];rfl
   rw[hd];exact IK m (by omega) w ht
structure af where
 kind:Int
 text:ByteArray
 num:Int
 sh:ByteArray
 c:Int
 r:Int
 ac:Bool
 ar:Bool
 pos:Int
def af.zero:af:=⟨0,⟨#[]⟩,0,⟨#[]⟩,0,0,false,false,0⟩
def af.goto(t:af)(p:Int):af:={ t with pos:=p }
def isWord(x:Int):Bool:=isLet x||(isNum x||decide (x=36∨x=33))
def jQ (l:List Int):Option (af × Nat) :=
 if (1<(l.takeWhile isNum).length∧l.head? = some 48)∨9223372036854775807<bH (l.takeWhile isNum)then none
 else some ({ af.zero with kind:=1,num:=bH (l.takeWhile isNum) },(l.takeWhile isNum).length)
def dS:List Int→Option (List Int × Nat)
 | []=>none
 | x :: l =>
   if x<32 then none
   else if x≠34 then (dS l).map fun p=>(x :: p.1,p.2+1)
   else match l with
    | y :: m=>if y=34 then (dS m).map fun p=>(34 :: p.1,p.2+2)else some ([],1)
    | []=>some ([],1)
def jR(l:List Int):Option (af × Nat):=(dS l).map fun p=>({ af.zero with kind:=2,text:=strOfNums p.1 },p.2+1)
def iO(l:List Int):Bool:=decide (∀x∈l,(aG x||isNum x)=true)&&(decide (1≤l.length∧l.length≤12)&&aG (l.getD 0 0))
def lD (l:List Int):Option (af × Nat) :=
 match fO (strOfNums (l.takeWhile isWord))with
 | some d=>some ({ af.zero with kind:=4,sh:=d.sh,c:=d.c,r:=d.r,ac:=d.ac,ar:=d.ar },(l.takeWhile isWord).length)
 | none=>if iO (l.takeWhile isWord)=true then some ({ af.zero with kind:=3,text:=strOfNums (l.takeWhile isWord) },(l.takeWhile isWord).length)else none
def oD(l:List Int):Option (af × Nat):=if l.take 5=[35,82,69,70,33]then some ({ af.zero with kind:=6 },5)else none
def jT:List Int→Nat
 | []=>0
 | x :: l =>
   if (x=60∧(l.head? = some 62∨l.head? = some 61))∨(x=62∧l.head? = some 61)then 2
   else if x=43∨x=45∨x=42∨x=47∨x=38∨x=61∨x=60∨x=62∨x=40∨x=41∨x=44∨x=58 then 1 else 0
def ny(l:List Int):Option (af × Nat):=if jT l=0 then none else some ({ af.zero with kind:=5,text:=strOfNums (l.take (jT l)) },jT l)
def eP:List Int→Option (af × Nat)
 | []=>none
 | x :: l=>if isNum x=true then jQ (x :: l)else if x=34 then jR l else if x=35 then oD (x :: l)else if isLet x=true∨x=36 then lD (x :: l)else ny (x :: l)
def eG:Nat→Nat→List Int→Option (List af)
 | _,p,[]=>some [af.zero.goto p]
 | 0,_,_ :: _=>none
 | f + 1,p,x :: l =>
   if x=32 then eG f (p+1) l
   else match eP (x :: l)with
    | none=>none
    | some (t,n)=>(eG f (p+n) ((x :: l).drop n)).map (t.goto p :: ·)
def fG(l:List Int):Option (List af):=eG l.length 0 l
theorem p9(x:Int)(l:List Int):eP (x :: l)=if isNum x=true then jQ (x :: l)else if x=34 then jR l else if x=35 then oD (x :: l)else if isLet x=true∨x=36 then lD (x :: l)else ny (x :: l):=rfl
theorem rF (x:Int)(l:List Int):dS (x :: l)=if x<32 then none else if x≠34 then (dS l).map fun p=>(x :: p.1,p.2+1)else match l with
 | y :: m=>if y=34 then (dS m).map fun p=>(34 :: p.1,p.2+2)else some ([],1)
 | []=>some ([],1):=by conv=>lhs;rw[dS.eq_def]
theorem qG (f p:Nat)(x:Int)(l:List Int):eG (f+1) p (x :: l)=if x=32 then eG f (p+1) l else match eP (x :: l)with
 | none=>none
 | some (t,n)=>(eG f (p+n) ((x :: l).drop n)).map (t.goto p :: ·):=rfl
theorem zk (p:Int→Bool)(l:List Int):(l.takeWhile p).length≤l.length:=by
 have h:=congrArg List.length (take_split p l);rw[aj]at h;omega
theorem Fu (p:Int→Bool)(x:Int)(l:List Int)(h:p x=true):0<((x :: l).takeWhile p).length:=by
 rw[List.takeWhile_cons,if_pos h];simp
theorem ES:∀(n:Nat)(l:List Int)(t:List Int)(k:Nat),l.length≤n→dS l=some (t,k)→0<k∧k≤l.length
 | _,[],_,_,_,h=>by simp[dS]at h
 | 0,_ :: _,_,_,hn,_=>by simp at hn
 | n + 1, x :: l,t,k,hn,h=>by
   rw[rF]at h;by_cases h1:x<32
   · rw[if_pos h1]at h;cases h
   · rw [if_neg h1]at h
     by_cases h2:x≠34
     · rw [if_pos h2]at h
       cases hq:dS l with
       | none=>rw[hq]at h;cases h
       | some q =>
         rw[hq]at h;simp only[Option.map_some,bA,bD]at h;have:=ES n l q.1 q.2 (by simp at hn;omega) hq;simp only[aK];omega
     · rw [if_neg h2]at h
       cases l with
       | nil=>simp at h;simp only[aK,dY];omega
       | cons y m =>
         by_cases hy:y=34
         · simp only [hy,if_true]at h
           cases hq:dS m with
           | none=>rw[hq]at h;cases h
           | some q =>
             rw[hq]at h;simp only[Option.map_some,bA,bD]at h;have:=ES n m q.1 q.2 (by simp at hn;omega) hq;simp only[aK];omega
         · simp only[hy,if_false,bA,bD]at h
           simp only[aK];omega
theorem qK (x:Int)(l:List Int):jT (x :: l)=if (x=60∧(l.head? = some 62∨l.head? = some 61))∨(x=62∧l.head? = some 61)then 2
 else if x=43∨x=45∨x=42∨x=47∨x=38∨x=61∨x=60∨x=62∨x=40∨x=41∨x=44∨x=58 then 1 else 0:=rfl
theorem QX:∀l:List Int,jT l≤l.length
 | []=>ag _
 | x :: l=>by
   rw[qK];by_cases h:(x=60∧(l.head? = some 62∨l.head? = some 61))∨(x=62∧l.head? = some 61)
   · rw[if_pos h]
     have h0:l≠[]:=by rintro rfl;simp at h
     have:=List.length_pos_iff.2 h0;simp only[aK];omega
   · rw[if_neg h]
     split <;> simp
theorem IJ {x:Int}(h:isLet x=true∨x=36):isWord x=true:=by
 unfold isWord;rcases h with h|h
 · rw[h];rfl
 · subst h;decide
theorem qa (l:List Int)(t:af)(n:Nat)(h:eP l=some (t,n)):0<n∧n≤l.length:=by
 cases l with
 | nil=>simp[eP]at h
 | cons x l =>
   rw[p9]at h;by_cases h1:isNum x=true
   · rw [if_pos h1]at h
     unfold jQ at h;split at h
     · cases h
     · simp only[bA,bD]at h
       rw[← h.2];exact⟨Fu isNum x l h1,zk _ _⟩
   · rw [if_neg h1]at h
     by_cases h2:x=34
     · rw [if_pos h2]at h
       unfold jR at h;cases hq:dS l with
       | none=>rw[hq]at h;cases h
       | some q =>
         rw[hq]at h;simp only[Option.map_some,bA,bD]at h;have:=ES _ l q.1 q.2 (ag _) hq;simp only[aK];omega
     · rw [if_neg h2]at h
       by_cases h3:x=35
       · rw [if_pos h3]at h
         unfold oD at h;split at h
         · rename_i h5
           simp only[bA,bD]at h;have:=congrArg List.length h5;rw[gD]at this;simp only[aK,dY]at this ⊢;omega
         · cases h
       · rw [if_neg h3]at h
         by_cases h4:isLet x=true∨x=36
         · rw [if_pos h4]at h
           unfold lD at h;split at h
           · simp only[bA,bD]at h
             rw[← h.2];exact⟨Fu isWord x l (IJ h4),zk _ _⟩
           · split at h
             · simp only[bA,bD]at h
               rw[← h.2];exact⟨Fu isWord x l (IJ h4),zk _ _⟩
             · cases h
         · rw [if_neg h4]at h
           unfold ny at h;split at h
           · cases h
           · rename_i h5
             simp only[bA,bD]at h;rw[← h.2];exact⟨by omega,QX _⟩
theorem Ex:∀(f g p:Nat)(l:List Int),l.length≤f→l.length≤g→eG f p l=eG g p l
 | 0,0,_,_,_,_=>rfl
 | _,_,_,[],_,_=>by unfold eG;rfl
 | 0,_,_,_ :: _,h,_=>by simp at h
 | _,0,_,_ :: _,_,h=>by simp at h
 | f + 1,g+1,p,x :: l,h,h2=>by
   simp only[aK]at h h2;rw[qG,qG];by_cases hx:x=32
   · rw[if_pos hx,if_pos hx];exact Ex f g (p+1) l (by omega) (by omega)
   · rw [if_neg hx,if_neg hx]
     cases ht:eP (x :: l)with
     | none=>rfl
     | some q =>
       obtain⟨t,n⟩:=q;have hn:=qa _ _ _ ht;simp only;rw[Ex f g (p+n) ((x :: l).drop n) (by rw[List.length_drop];simp only[aK];omega) (by rw[List.length_drop];simp only[aK];omega)]
def Alike(b b':List Int):Prop:=b'.head? = b.head? ∨ b'.head? = some 32
theorem WY {p:Int→Bool}(hp:p 32=false){b b':List Int}(h:Alike b b')(hb:∀x,b.head? = some x→p x=false):∀x,b'.head? = some x→p x=false:=by
 intro x hx;rcases h with h|h
 · exact hb x (by rw[← h];exact hx)
 · rw[h]at hx;injection hx with hx;rw[← hx];exact hp
theorem Q9 {p:Int→Bool}(hp:p 32=false){a b b':List Int}(h:Alike b b')(hs:((a++b).takeWhile p).length=a.length):(a++b).takeWhile p=a∧(a++b').takeWhile p=a:=by
 have e:=take_split p (a++b);rw[hs,List.drop_left]at e;have e1:(a++b).takeWhile p=a:=List.append_cancel_right e;refine⟨e1, ?_⟩;have hall:∀x∈a,p x=true:=fun x hx=>rP p (a++b) x (by rw[e1];exact hx)
 have hh:=CR p (a++b);rw[hs,List.drop_left]at hh;exact uj p a b' hall (WY hp h hh)
theorem Jy {b b':List Int}(h:Alike b b'):∀(n:Nat)(a t:List Int),a.length≤n→dS (a++b)=some (t,a.length)→dS (a++b')=some (t,a.length)
 | _,[],t,_,hq=>by
   exfalso;have:=ES _ _ _ _ (ag _) hq;simp at this
 | 0,_ :: _,_,hn,_=>by simp at hn
 | n + 1, x :: a,t,hn,hq=>by
   rw[dO,rF]at hq ⊢;by_cases h1:x<32
   · rw[if_pos h1]at hq;cases hq
   · rw [if_neg h1]at hq ⊢
     by_cases h2:x≠34
     · rw [if_pos h2]at hq ⊢
       cases hr:dS (a++b)with
       | none=>rw[hr]at hq;cases hq
       | some q =>
         rw[hr]at hq;simp only[Option.map_some,bA,bD,aK]at hq;have h3:=Jy h n a q.1 (by simp at hn;omega) (by rw[hr, ← show q.2=a.length from by omega]);rw[h3];simp only[Option.map_some,aK,bA,bD,and_true];exact hq.1
     · rw [if_neg h2]at hq ⊢
       cases a with
       | nil =>
         simp only[fQ]at hq ⊢;cases b with
         | nil =>
           simp only[bA,bD]at hq;cases b' with
           | nil=>simpa using hq
           | cons y m =>
             rcases h with h|h
             · simp at h
             · simp at h;subst h;simpa using hq
         | cons z m =>
           by_cases hz:z=34
           · exfalso
             simp only[hz,if_true]at hq;cases hr:dS m with
             | none=>rw[hr]at hq;cases hq
             | some q=>rw[hr]at hq;simp at hq
           · simp only [hz,if_false]at hq
             cases b' with
             | nil=>simpa using hq
             | cons y k =>
               have hy:¬ y=34:=by
                rcases h with h|h
                · simp at h;rw[h];exact hz
                · simp at h;omega
               simp only[hy,if_false];exact hq
       | cons y m =>
         simp only[dO]at hq ⊢;by_cases hy:y=34
         · simp only [hy,if_true]at hq ⊢
           cases hr:dS (m++b)with
           | none=>rw[hr]at hq;cases hq
           | some q =>
             rw[hr]at hq;simp only[Option.map_some,bA,bD,aK]at hq;have h3:=Jy h n m q.1 (by simp at hn;omega) (by rw[hr, ← show q.2=m.length from by omega]);rw[h3];simp only[Option.map_some,aK,bA,bD,and_true];exact hq.1
         · simp only[hy,if_false,bA,bD,aK]at hq
           exfalso;omega
theorem adh {b b':List Int}(h:Alike b b')(x:Int)(hs:jT (x :: b)=1):jT (x :: b')=1:=by
 rw[qK]at hs ⊢;by_cases h2:(x=60∧(b.head? = some 62∨b.head? = some 61))∨(x=62∧b.head? = some 61)
 · rw[if_pos h2]at hs;omega
 · rw [if_neg h2]at hs
   have h3:¬ ((x=60∧(b'.head? = some 62∨b'.head? = some 61))∨(x=62∧b'.head? = some 61)):=by
    rcases h with h|h
    · rw[h];exact h2
    · rw[h];simp
   rw[if_neg h3];exact hs
theorem take_len(a b:List Int):(a++b).take a.length=a:=List.take_left
theorem aea {a b b':List Int}{t:af}(h:Alike b b')(hq:eP (a++b)=some (t,a.length)):eP (a++b')=some (t,a.length):=by
 cases a with
 | nil =>
   have:=(qa _ _ _ hq).1;simp at this
 | cons x a =>
   have hsp:∀(p:Int→Bool),p 32=false→((x :: a++b).takeWhile p).length=(x :: a).length→(x :: a++b').takeWhile p=(x :: a++b).takeWhile p:=by
    intro p hp hl;obtain⟨e1,e2⟩:=Q9 hp h hl;rw[e1,e2]
   rw[dO,p9]at hq ⊢;by_cases h1:isNum x=true
   · rw [if_pos h1]at hq ⊢
     have hn:((x :: a++b).takeWhile isNum).length=(x :: a).length:=by
      unfold jQ at hq;split at hq
      · cases hq
      · simp only[bA,bD]at hq;exact hq.2
     have e:=hsp isNum (by decide) hn;rw[← hq];unfold jQ;rw[dO,dO]at e;rw[e];rfl
   · rw [if_neg h1]at hq ⊢
     by_cases h2:x=34
     · rw [if_pos h2]at hq ⊢
       unfold jR at hq ⊢;cases hr:dS (a++b)with
       | none=>rw[hr]at hq;cases hq
       | some q =>
         rw[hr]at hq;simp only[Option.map_some,bA,bD,aK]at hq;have h3:=Jy h _ a q.1 (ag _) (by rw[hr, ← show q.2=a.length from by omega]);rw[h3];simp only[Option.map_some,aK,bA,bD,and_true];exact hq.1
     · rw [if_neg h2]at hq ⊢
       by_cases h3:x=35
       · rw [if_pos h3]at hq ⊢
         unfold oD at hq ⊢;by_cases h5:(x :: (a++b)).take 5=[35,82,69,70,33]
         · rw[if_pos h5]at hq
           simp only[bA,bD]at hq;have e1:(x :: (a++b)).take 5=x :: a:=by rw[hq.2, ← dO];exact take_len _ _
           have e2:(x :: (a++b')).take 5=x :: a:=by rw[hq.2, ← dO];exact take_len _ _
           rw[e1]at h5;rw[e2,if_pos h5,hq.1];exact congrArg (fun k=>some (t,k)) hq.2
         · rw[if_neg h5]at hq;cases hq
       · rw [if_neg h3]at hq ⊢
         by_cases h4:isLet x=true∨x=36
         · rw [if_pos h4]at hq ⊢
           have hn:((x :: a++b).takeWhile isWord).length=(x :: a).length:=by
            unfold lD at hq;split at hq
            · simp only[bA,bD]at hq;exact hq.2
            · split at hq
              · simp only[bA,bD]at hq;exact hq.2
              · cases hq
           have e:=hsp isWord (by decide) hn;rw[← hq];unfold lD;rw[dO,dO]at e;rw[e]
         · rw [if_neg h4]at hq ⊢
           unfold ny at hq ⊢;by_cases h5:jT (x :: (a++b))=0
           · rw[if_pos h5]at hq;cases hq
           · rw [if_neg h5]at hq
             simp only[bA,bD]at hq
             have e:jT (x :: (a++b'))=jT (x :: (a++b)):=by
              cases a with
              | nil=>rw[hq.2];exact adh h x hq.2
              | cons y a=>rw[qK,qK];rfl
             rw[e,if_neg h5, ← hq.1,hq.2];have e1:(x :: (a++b)).take (x :: a).length=x :: a:=by rw[← dO];exact take_len _ _
             have e2:(x :: (a++b')).take (x :: a).length=x :: a:=by rw[← dO];exact take_len _ _
             rw[e1,e2]
theorem VI:∀(n u:Nat),u<n→1≤u→(aF u).head? ≠ some 48:=by
 intro n
 induction n with
 | zero=>intro u h;omega
 | succ n ih =>
   intro u hu h1;by_cases h:u<10
   · rw[lg u h];simp;omega
   · rw[qC u h]
     have:=ih (u / 10) (by omega) (by omega);cases hd:aF (u / 10)with
     | nil=>exact absurd hd (qD _)
     | cons y l=>rw[hd]at this;simpa using this
theorem RH{x:Int}(h:aG x=true):isWord x=true:=IJ (.inl (by unfold aG at h;unfold isLet;rw[decide_eq_true_iff]at h ⊢;omega))
theorem Ku{x:Int}(h:isNum x=true):isWord x=true:=by unfold isWord;rw[h];simp
theorem aeZ (c r:Int)(ac ar:Bool):∀x∈oQ c r ac ar,isWord x=true:=by
 intro x hx;unfold oQ at hx;simp only[List.mem_append]at hx;rcases hx with h|h|h|h
 · have:=vG _ x h;rw[decide_eq_true_iff]at this;subst this;decide
 · exact RH (tL c x h)
 · have:=vG _ x h;rw[decide_eq_true_iff]at this;subst this;decide
 · exact Ku (rA _ x h)
theorem aeW (l:List Int)(h:fF l=true):∀x∈l,isWord x=true:=by
 intro x hx;unfold fF at h;rw[dE,decide_eq_true_iff]at h;obtain⟨j,hj,rfl⟩:=List.mem_iff_getElem.1 hx;have:=h.1 j hj;rw[iC,bn hj]at this;simp only[Option.getD_some]at this;unfold mr at this;unfold isWord;rw[Bool.or_eq_true,dE]at this;rcases this with h1|⟨_,h1⟩
 · rw[h1];rfl
 · rw[h1];simp
theorem ae0 (sh:List Int)(c r:Int)(ac ar:Bool)(h:dn sh c r=true):∀x∈aO sh c r ac ar,isWord x=true:=by
 intro x hx;rw[zl _ _ _ _ _ h,List.mem_append]at hx;rcases hx with hx|hx
 · by_cases h0:sh=[]
   · rw[if_pos h0]at hx;simp at hx
   · rw[if_neg h0,List.mem_append]at hx
     rcases hx with hx|hx
     · exact aeW sh ((Ah h).resolve_left h0) x hx
     · simp at hx;subst hx;decide
 · exact aeZ c r ac ar x hx
theorem adL (sh:List Int)(c r:Int)(ac ar:Bool)(h:dn sh c r=true):∃x l,aO sh c r ac ar=x :: l∧(isLet x=true∨x=36):=by
 rw[zl _ _ _ _ _ h];obtain⟨c0,c1,_,_⟩:=EC h;by_cases h0:sh=[]
 · rw [if_pos h0,fQ]
   unfold oQ;cases ac with
   | true=>exact⟨36,_,rfl,.inr rfl⟩
   | false =>
     have Ie:=tL c;cases hc:aS c with
     | nil=>exact absurd hc (D8 c c0 c1)
     | cons y m =>
       refine⟨y,_,rfl,.inl ?_⟩;have:=Ie y (by rw[hc];simp);unfold aG at this;unfold isLet;rw[decide_eq_true_iff]at this ⊢;omega
 · rw [if_neg h0]
   have hn:=(Ah h).resolve_left h0;cases sh with
   | nil=>exact absurd rfl h0
   | cons y m =>
     refine⟨y,_,rfl,.inl ?_⟩;unfold fF at hn;rw[dE,decide_eq_true_iff]at hn;have:=hn.1 0 (by simp);unfold mr at this
     simpa using this
theorem aa8 (s:ByteArray)(c r:Int)(ac ar:Bool)(h:dn (sb s) c r=true):∃d,fO (strOfNums (aO (sb s) c r ac ar))=some d∧d.sh=s∧d.c=c∧d.r=r∧d.ac=ac∧d.ar=ar:=by
 have hb:=gK _ (ym s c r ac ar);cases hq:fO (strOfNums (aO (sb s) c r ac ar))with
 | none=>exact absurd hb.symm (Aq _ hq _ _ _ _ _ h)
 | some d =>
   obtain⟨_,h2,h3⟩:=vX _ d hq;rw[hb]at h3;obtain⟨e1,e2,e3,e4,e5⟩:=Rl h2 h h3;exact⟨d,rfl,QK e1,e2,e3,e4,e5⟩
def eu:List Int→List Int
 | []=>[]
 | x :: l=>(if x=34 then [34,34]else [x])++eu l
def mY(c:Int):Bool:=decide (c=32)
def mD(c:Int):Bool:=isLet c||decide (c=36)
theorem OW (c:Int)(_h0:0≤c)(_h1:c≤255)(w:World) :
 Calls Tryz.prog 182 #[.int .u8 c] w fun e w'=>e = .returned (.bool (mY c))∧w=w':=by
 go_enter Tryz.func182,Tryz.ntmps182
 go_wp2
 all_goals go_ret
 all_goals exact⟨dD (by unfold mY;first|rfl|(symm;rw[decide_eq_true_iff];omega)|(symm;rw[decide_eq_false_iff_not];omega)|(rw[decide_eq_decide];omega)),rfl⟩
theorem tT (c:Int)(_h0:0≤c)(_h1:c≤255)(w:World) :
 Calls Tryz.prog 210 #[.int .u8 c] w fun e w'=>e = .returned (.bool (isNum c))∧w=w':=by
 go_enter Tryz.func210,Tryz.ntmps210
 go_wp2
 all_goals go_ret
 all_goals exact⟨dD (by unfold isNum;first|rfl|(symm;rw[decide_eq_true_iff];omega)|(symm;rw[decide_eq_false_iff_not];omega)|(rw[decide_eq_decide];omega)),rfl⟩
theorem Cn (c:Int)(_h0:0≤c)(_h1:c≤255)(w:World) :
 Calls Tryz.prog 233 #[.int .u8 c] w fun e w'=>e = .returned (.bool (aG c))∧w=w':=by
 go_enter Tryz.func233,Tryz.ntmps233
 go_wp2
 all_goals go_ret
 all_goals exact⟨dD (by unfold aG;first|rfl|(symm;rw[decide_eq_true_iff];omega)|(symm;rw[decide_eq_false_iff_not];omega)|(rw[decide_eq_decide];omega)),rfl⟩
theorem Ox{c:Int}(h:aG c=true):mD c=true:=by unfold mD;rw[Oz h];rfl
theorem X0{c:Int}(h:aG c=false):mD c=decide (97≤c∧c≤122∨c=36):=by unfold mD;rw[OA h];simp
theorem Er {c:Int}:isWord c=(mD c||(isNum c||decide (c=33))):=by
 unfold isWord mD;rw[show decide (c=36∨c=33)=(decide (c=36)||decide (c=33))from by simp];cases isLet c <;> cases isNum c <;> cases decide (c=36) <;> simp
theorem wW (c:Int)(_h0:0≤c)(_h1:c≤255)(w:World) :
 Calls Tryz.prog 214 #[.int .u8 c] w fun e w'=>e = .returned (.bool (mD c))∧w=w':=by
 by_cases hc:aG c=true
 · have HL:=aa (Ox hc)
   go_enter Tryz.func214,Tryz.ntmps214;go_wp2_with (go_at_call 233;((with_reducible refine(Cn _ ?_ ?_ _).mono ?_);(first|omega|skip);(first|omega|skip);rintro e w' ⟨rfl,rfl⟩))
   all_goals go_ret
   all_goals exact⟨dD (by rw[HL.o]),rfl⟩
 · have hc':aG c=false:=by simpa using hc
   have HL:=aa (X0 hc');clear hc;go_enter Tryz.func214,Tryz.ntmps214;go_wp2_with (go_at_call 233;((with_reducible refine(Cn _ ?_ ?_ _).mono ?_);(first|omega|skip);(first|omega|skip);rintro e w' ⟨rfl,rfl⟩))
   all_goals go_ret
   all_goals exact⟨dD (by rw[HL.o];first|rfl|(symm;rw[decide_eq_true_iff];omega)|(symm;rw[decide_eq_false_iff_not];omega)|(rw[Bool.eq_iff_iff];simp only[Bool.or_eq_true,decide_eq_true_iff,beq_iff_eq];omega)),rfl⟩
theorem OD (c:Int)(_h0:0≤c)(_h1:c≤255)(w:World) :
 Calls Tryz.prog 234 #[.int .u8 c] w fun e w'=>e = .returned (.bool (isWord c))∧w=w':=by
 have HW:=aa (Er (c:=c));cases hb:mD c
 · cases hn:isNum c
   · rw [hb,hn]at HW
     go_enter Tryz.func234,Tryz.ntmps234
     go_wp2_with (first
      | (go_at_call 214;((with_reducible refine(wW _ ?_ ?_ _).mono ?_);(first|omega|skip);(first|omega|skip);rintro e w' ⟨rfl,rfl⟩;rw[hb]))
      | (go_at_call 210;((with_reducible refine(tT _ ?_ ?_ _).mono ?_);(first|omega|skip);(first|omega|skip);rintro e w' ⟨rfl,rfl⟩;rw[hn])))
     all_goals go_ret
     all_goals exact⟨dD (by rw[HW.o];first|rfl|(rw[Bool.eq_iff_iff];simp only[Bool.or_eq_true,dE,Bool.false_or,decide_eq_true_iff,beq_iff_eq])),rfl⟩
   · rw [hb,hn]at HW
     go_enter Tryz.func234,Tryz.ntmps234
     go_wp2_with (first
      | (go_at_call 214;((with_reducible refine(wW _ ?_ ?_ _).mono ?_);(first|omega|skip);(first|omega|skip);rintro e w' ⟨rfl,rfl⟩;rw[hb]))
      | (go_at_call 210;((with_reducible refine(tT _ ?_ ?_ _).mono ?_);(first|omega|skip);(first|omega|skip);rintro e w' ⟨rfl,rfl⟩;rw[hn])))
     all_goals go_ret
     all_goals exact⟨dD (by rw[HW.o];rfl),rfl⟩
 · rw [hb]at HW
   go_enter Tryz.func234,Tryz.ntmps234
   go_wp2_with (first
    | (go_at_call 214;((with_reducible refine(wW _ ?_ ?_ _).mono ?_);(first|omega|skip);(first|omega|skip);rintro e w' ⟨rfl,rfl⟩;rw[hb])))
   all_goals go_ret
   all_goals exact⟨dD (by rw[HW.o];rfl),rfl⟩
def bN(w:World)(b:Nat)(s:ByteArray)(k:Nat):Prop:=w.heap[b]? = some (.cells #[.string s,.int .i64 (k:Int)] 196)
theorem bN.lt{w:World}{b:Nat}{s:ByteArray}{k:Nat}(h:bN w b s k):b<w.heap.size:=(dZ.1 h).1
theorem bN.drewN{w:World}{b:Nat}{s:ByteArray}{k:Nat}(h:bN w b s k)(n:Nat):bN (w.drewN n) b s k:=h
theorem bN.below{w w':World}{B b:Nat}{s:ByteArray}{k:Nat}(h:bN w b s k)(hb:Below B w w')(hB:b<B):bN w' b s k:=by unfold bN;rw[hb.block b hB];exact h
theorem bN.facts {w:World}{b:Nat}{s:ByteArray}{k:Nat}(h:bN w b s k):w.cell? ⟨b,0,none⟩=some (.string s)∧w.cell? ⟨b,1,none⟩=some (.int .i64 (k:Int)) :=
 ⟨by rw[cell_of_row w b 0 _ _ _ h];rfl,by rw[cell_of_row w b 1 _ _ _ h];rfl⟩
theorem bN.frozen{w:World}{b:Nat}{s:ByteArray}{k:Nat}(h:bN w b s k)(j:Nat):w.frozen? ⟨b,j,none⟩=false:=frozen_of_row w b j _ _ h
theorem bN.rM{w:World}{b:Nat}{s:ByteArray}{k:Nat}(h:bN w b s k)(m:Nat):bN (w.setCell ⟨b,1,none⟩ (.int .i64 (m:Int))) b s m:=by unfold bN;rw[heap_setCell_same w b 1 _ _ _ h];rfl
theorem bN.wm{w:World}{b:Nat}{s:ByteArray}{k:Nat}(h:bN w b s k):bN (w.setCell ⟨b,1,none⟩ (.int .i64 ((k:Int)+1))) b s (k+1):=h.rM (k+1)
theorem bN.new(w:World)(s:ByteArray):bN (w.alloc (.cells #[.string s,.int .i64 0] 196)) w.heap.size s 0:=(jw w _).1
def nY(t:af):Array Value:=#[.int .i64 t.kind,.string t.text,.int .i64 t.num,.string t.sh,.int .i64 t.c,.int .i64 t.r,.bool t.ac,.bool t.ar,.int .i64 t.pos]
def aC(w:World)(b:Nat)(t:af):Prop:=w.heap[b]? = some (.cells (nY t) 154)
theorem aC.lt{w:World}{b:Nat}{t:af}(h:aC w b t):b<w.heap.size:=(dZ.1 h).1
theorem aC.below{w w':World}{B b:Nat}{t:af}(h:aC w b t)(hb:Below B w w')(hB:b<B):aC w' b t:=by unfold aC;rw[hb.block b hB];exact h
theorem aC.drewN{w:World}{b:Nat}{t:af}(h:aC w b t)(n:Nat):aC (w.drewN n) b t:=h
theorem aC.frozen{w:World}{b:Nat}{t:af}(h:aC w b t)(j:Nat):w.frozen? ⟨b,j,none⟩=false:=frozen_of_row w b j _ _ h
theorem aC.grown {w w':World}{b c:Nat}{t:af}(h:aC w b t)(hg:w.grownBy w' (some c))(hne:b≠c):aC w' b t:=by
 unfold aC;rw[hg.block b h.lt (by intro e;exact hne (dX e))];exact h
theorem aC.new(w:World)(t:af):aC (w.alloc (.cells (nY t) 154)) w.heap.size t:=(jw w _).1
theorem Rs:(Tryz.prog.info? 154).map (·.size)=some 9:=by kernel_rfl
theorem aei (t:af):∀v∈(nY t).toList,v.oneCell'=true:=by
 intro v hv;simp only[nY,List.mem_cons,List.not_mem_nil,or_false]at hv;rcases hv with rfl|rfl|rfl|rfl|rfl|rfl|rfl|rfl|rfl <;> rfl
theorem zU (s:ByteArray)(a m:Nat):sb (s.extract a (a+m))=((sb s).drop a).take m:=by
 unfold sb;rw[← List.map_drop, ← List.map_take];congr 1;rw[ByteArray.data_extract,Array.toList_extract];rw[List.extract_eq_take_drop];congr 1;omega
def ax(s:ByteArray)(k:Nat):List Int:=(sb s).drop k
theorem mE(s:ByteArray)(k:Nat):(ax s k).length=s.size - k:=by unfold ax;rw[List.length_drop,bC]
theorem xu(s:ByteArray)(k m:Nat)(h:k+m<s.size):(ax s k)[m]? = some ((s[k+m].toNat:Nat):Int):=by unfold ax;rw[List.getElem?_drop,oM s _ h]
theorem JN (s:ByteArray)(k m:Nat)(h:k+m<s.size):(ax s k).take (m+1)=(ax s k).take m++[((s[k+m].toNat:Nat):Int)]:=by
 rw[List.take_add_one,xu s k m h];rfl
theorem CB (s:ByteArray)(k m:Nat):s.extract k (k+m)=strOfNums ((ax s k).take m):=by
 rw[← jU (s.extract k (k+m)),zU];rfl
theorem Qt(s:ByteArray)(k m:Nat):(ax s k).drop m=ax s (k+m):=by unfold ax;rw[List.drop_drop]
theorem JM(s:ByteArray)(k:Nat):Bytes (ax s k):=fun a ha=>uh s a (List.mem_of_mem_drop ha)
def lW(b n:Nat)(w:World):Nat:=n - (match w.cell? ⟨b,1,none⟩with|some (.int _ m)=>m.toNat|_=>0)
theorem bN.lW {w:World}{b:Nat}{s:ByteArray}{k:Nat}(h:bN w b s k)(n:Nat):lW b n w=n - k:=by
 unfold Go.Proofs.YtdnooocmlhcpkaaGreatDoor.lW;rw[h.facts.2];rfl
def DU (p:Int→Bool)(s:ByteArray)(b k:Nat)(w:World)(e:Ending)(w':World):Prop :=
 w.grownBy w' (some b)∧e = .returned (.string (strOfNums ((ax s k).takeWhile p)))∧bN w' b s (k+((ax s k).takeWhile p).length)
theorem AB {p:Int→Bool}{s:ByteArray}{b k m:Nat}{w wr:World}(hg:w.grownBy wr (some b))(hall:∀x∈(ax s k).take m,p x=true)(hstop:∀x,(ax s k)[m]? = some x→p x=false)(hm:k+m≤s.size)
 (hr:bN wr b s (k+m))(e:Ending)(he:e = .returned (.string (s.extract k (k+m)))):DU p s b k w e wr:=by
 have hsp:=zi p (ax s k) m hall hstop;have hlen:((ax s k).take m).length=m:=by rw[gD,mE];omega
 refine⟨hg, ?_, ?_⟩
 · rw[hsp,he,CB]
 · rw[hsp,hlen];exact hr
theorem aeH (b:Nat)(s:ByteArray)(k:Nat)(w:World)(h:bN w b s k)(_hs:s.size≤1000000)(_hk:k≤s.size) :
 Calls Tryz.prog 181 #[.pointer (some ⟨b,0,none⟩),.func (.func 182) #[] #[]] w (DU mY s b k w):=by
 have HR:=aa h;obtain⟨c0,c1⟩:=h.facts;clear h;go_enter Tryz.func181,Tryz.ntmps181;go_wp2_with fail
 clear c0 c1
 go_loopw [] (fun wr=>∃m:Nat,k+m≤s.size∧Hid (∀x∈(ax s k).take m,mY x=true)∧Hid (bN wr b s (k+m))∧Hid (w.grownBy wr (some b)))
  (fun wr=>lW b s.size wr)
 case atStart=>exact⟨0,by omega,aa (by simp),HR,aa (grownBy.refl' _ _)⟩
 case round =>
  obtain⟨m,dh,HM,bR,HG⟩:=hrel;obtain⟨c0,c1⟩:=bR.o.facts;have f1:=bR.o.frozen 1;obtain⟨p,hp⟩:∃p:Nat,k+m=p:=⟨_,rfl⟩;rw[hp]at c1;have hz1:(0:Int)≤(k:Int):=by omega
  have hz2:(k:Int)≤(p:Int):=by omega
  have hz3:(p:Int)≤(s.size:Int):=by omega
  have IC:(0:Int)≤(p:Int):=by omega
  by_cases hlt:p<s.size
  · have hlt2:(p:Int)<(s.size:Int):=by omega
    obtain⟨a,ha⟩:∃a:Int,(s[p].toNat:Int)=a:=⟨_,rfl⟩;have ha1:0≤a∧a≤255:=by have:=s[p].toNat_lt;omega
    have hnx:(ax s k).take (m+1)=(ax s k).take m++[a]:=by subst hp;rw[JN s k m hlt,ha]
    have hat:(ax s k)[m]? = some a:=by subst hp;rw[xu s k m hlt,ha]
    have dB:=aa hnx;clear hnx;have HAT:=aa hat;clear hat;have HP:=aa hp;clear hp;by_cases hc:mY a=true
    · have hall:=pq HM.o hc
      rw[← dB.o]at hall;have jI:=aa hall;clear hall;go_wp2_with fail
      go_quiet ((go_at_call 182;exact qI (OW _ (by omega) (by omega) _)))
      go_wp2_with fail
      go_roundw
      case rel =>
       refine⟨m+1,by have:=HP.o;omega,jI,aa ?_,aa (grownBy.setCell' (grownBy.drewN' HG.o _) _ _)⟩;rw[show k+(m+1)=p+1 from by have:=HP.o;omega];exact(bR.o.drewN _).rM (p+1)
      case measure =>
       have h1:=((bR.o.drewN nq).rM (p+1)).lW s.size;have h2:=bR.o.lW s.size;have h3:=HP.o;rw[h2];refine Nat.lt_of_le_of_lt (Nat.le_of_eq h1) (by omega)
    · have hc':mY a=false:=by simpa using hc
      clear hc;go_wp2_with fail
      go_quiet ((go_at_call 182;exact qI (OW _ (by omega) (by omega) _)))
      go_wp2_with fail
      go_quiet (fail)
      go_wp2_with fail
      go_ret;have h3:=HP.o;exact AB (grownBy.drewN' (grownBy.drewN' HG.o _) _) HM.o (fun x hx=>by rw[HAT.o]at hx;injection hx with hx;rw[← hx];exact hc') (by omega) ((bR.o.drewN _).drewN _) _ (by rw[h3];rfl)
  · have hlt2:¬ (p:Int)<(s.size:Int):=by omega
    have HP:=aa hp;clear hp;go_wp2_with fail
    go_quiet (fail)
    go_wp2_with fail
    go_quiet (fail)
    go_wp2_with fail
    go_ret;have h3:=HP.o;exact AB (grownBy.drewN' (grownBy.drewN' HG.o _) _) HM.o (fun x hx=>by have h1:=(dm.1 hx).1;rw[mE]at h1;omega) (by omega) ((bR.o.drewN _).drewN _) _ (by rw[h3];rfl)
theorem aeI (b:Nat)(s:ByteArray)(k:Nat)(w:World)(h:bN w b s k)(_hs:s.size≤1000000)(_hk:k≤s.size) :
 Calls Tryz.prog 181 #[.pointer (some ⟨b,0,none⟩),.func (.func 210) #[] #[]] w (DU isNum s b k w):=by
 have HR:=aa h;obtain⟨c0,c1⟩:=h.facts;clear h;go_enter Tryz.func181,Tryz.ntmps181;go_wp2_with fail
 clear c0 c1
 go_loopw [] (fun wr=>∃m:Nat,k+m≤s.size∧Hid (∀x∈(ax s k).take m,isNum x=true)∧Hid (bN wr b s (k+m))∧Hid (w.grownBy wr (some b)))
  (fun wr=>lW b s.size wr)
 case atStart=>exact⟨0,by omega,aa (by simp),HR,aa (grownBy.refl' _ _)⟩
 case round =>
  obtain⟨m,dh,HM,bR,HG⟩:=hrel;obtain⟨c0,c1⟩:=bR.o.facts;have f1:=bR.o.frozen 1;obtain⟨p,hp⟩:∃p:Nat,k+m=p:=⟨_,rfl⟩;rw[hp]at c1;have hz1:(0:Int)≤(k:Int):=by omega
  have hz2:(k:Int)≤(p:Int):=by omega
  have hz3:(p:Int)≤(s.size:Int):=by omega
  have IC:(0:Int)≤(p:Int):=by omega
  by_cases hlt:p<s.size
  · have hlt2:(p:Int)<(s.size:Int):=by omega
    obtain⟨a,ha⟩:∃a:Int,(s[p].toNat:Int)=a:=⟨_,rfl⟩;have ha1:0≤a∧a≤255:=by have:=s[p].toNat_lt;omega
    have hnx:(ax s k).take (m+1)=(ax s k).take m++[a]:=by subst hp;rw[JN s k m hlt,ha]
    have hat:(ax s k)[m]? = some a:=by subst hp;rw[xu s k m hlt,ha]
    have dB:=aa hnx;clear hnx;have HAT:=aa hat;clear hat;have HP:=aa hp;clear hp;by_cases hc:isNum a=true
    · have hall:=pq HM.o hc
      rw[← dB.o]at hall;have jI:=aa hall;clear hall;go_wp2_with fail
      go_quiet ((go_at_call 210;exact qI (tT _ (by omega) (by omega) _)))
      go_wp2_with fail
      go_roundw
      case rel =>
       refine⟨m+1,by have:=HP.o;omega,jI,aa ?_,aa (grownBy.setCell' (grownBy.drewN' HG.o _) _ _)⟩;rw[show k+(m+1)=p+1 from by have:=HP.o;omega];exact(bR.o.drewN _).rM (p+1)
      case measure =>
       have h1:=((bR.o.drewN nq).rM (p+1)).lW s.size;have h2:=bR.o.lW s.size;have h3:=HP.o;rw[h2];refine Nat.lt_of_le_of_lt (Nat.le_of_eq h1) (by omega)
    · have hc':isNum a=false:=by simpa using hc
      clear hc;go_wp2_with fail
      go_quiet ((go_at_call 210;exact qI (tT _ (by omega) (by omega) _)))
      go_wp2_with fail
      go_quiet (fail)
      go_wp2_with fail
      go_ret;have h3:=HP.o;exact AB (grownBy.drewN' (grownBy.drewN' HG.o _) _) HM.o (fun x hx=>by rw[HAT.o]at hx;injection hx with hx;rw[← hx];exact hc') (by omega) ((bR.o.drewN _).drewN _) _ (by rw[h3];rfl)
  · have hlt2:¬ (p:Int)<(s.size:Int):=by omega
    have HP:=aa hp;clear hp;go_wp2_with fail
    go_quiet (fail)
    go_wp2_with fail
    go_quiet (fail)
    go_wp2_with fail
    go_ret;have h3:=HP.o;exact AB (grownBy.drewN' (grownBy.drewN' HG.o _) _) HM.o (fun x hx=>by have h1:=(dm.1 hx).1;rw[mE]at h1;omega) (by omega) ((bR.o.drewN _).drewN _) _ (by rw[h3];rfl)
theorem aeJ (b:Nat)(s:ByteArray)(k:Nat)(w:World)(h:bN w b s k)(_hs:s.size≤1000000)(_hk:k≤s.size) :
 Calls Tryz.prog 181 #[.pointer (some ⟨b,0,none⟩),.func (.func 234) #[] #[]] w (DU isWord s b k w):=by
 have HR:=aa h;obtain⟨c0,c1⟩:=h.facts;clear h;go_enter Tryz.func181,Tryz.ntmps181;go_wp2_with fail
 clear c0 c1
 go_loopw [] (fun wr=>∃m:Nat,k+m≤s.size∧Hid (∀x∈(ax s k).take m,isWord x=true)∧Hid (bN wr b s (k+m))∧Hid (w.grownBy wr (some b)))
  (fun wr=>lW b s.size wr)
 case atStart=>exact⟨0,by omega,aa (by simp),HR,aa (grownBy.refl' _ _)⟩
 case round =>
  obtain⟨m,dh,HM,bR,HG⟩:=hrel;obtain⟨c0,c1⟩:=bR.o.facts;have f1:=bR.o.frozen 1;obtain⟨p,hp⟩:∃p:Nat,k+m=p:=⟨_,rfl⟩;rw[hp]at c1;have hz1:(0:Int)≤(k:Int):=by omega
  have hz2:(k:Int)≤(p:Int):=by omega
  have hz3:(p:Int)≤(s.size:Int):=by omega
  have IC:(0:Int)≤(p:Int):=by omega
  by_cases hlt:p<s.size
  · have hlt2:(p:Int)<(s.size:Int):=by omega
    obtain⟨a,ha⟩:∃a:Int,(s[p].toNat:Int)=a:=⟨_,rfl⟩;have ha1:0≤a∧a≤255:=by have:=s[p].toNat_lt;omega
    have hnx:(ax s k).take (m+1)=(ax s k).take m++[a]:=by subst hp;rw[JN s k m hlt,ha]
    have hat:(ax s k)[m]? = some a:=by subst hp;rw[xu s k m hlt,ha]
    have dB:=aa hnx;clear hnx;have HAT:=aa hat;clear hat;have HP:=aa hp;clear hp;by_cases hc:isWord a=true
    · have hall:=pq HM.o hc
      rw[← dB.o]at hall;have jI:=aa hall;clear hall;go_wp2_with fail
      go_quiet ((go_at_call 234;exact qI (OD _ (by omega) (by omega) _)))
      go_wp2_with fail
      go_roundw
      case rel =>
       refine⟨m+1,by have:=HP.o;omega,jI,aa ?_,aa (grownBy.setCell' (grownBy.drewN' HG.o _) _ _)⟩;rw[show k+(m+1)=p+1 from by have:=HP.o;omega];exact(bR.o.drewN _).rM (p+1)
      case measure =>
       have h1:=((bR.o.drewN nq).rM (p+1)).lW s.size;have h2:=bR.o.lW s.size;have h3:=HP.o;rw[h2];refine Nat.lt_of_le_of_lt (Nat.le_of_eq h1) (by omega)
    · have hc':isWord a=false:=by simpa using hc
      clear hc;go_wp2_with fail
      go_quiet ((go_at_call 234;exact qI (OD _ (by omega) (by omega) _)))
      go_wp2_with fail
      go_quiet (fail)
      go_wp2_with fail
      go_ret;have h3:=HP.o;exact AB (grownBy.drewN' (grownBy.drewN' HG.o _) _) HM.o (fun x hx=>by rw[HAT.o]at hx;injection hx with hx;rw[← hx];exact hc') (by omega) ((bR.o.drewN _).drewN _) _ (by rw[h3];rfl)
  · have hlt2:¬ (p:Int)<(s.size:Int):=by omega
    have HP:=aa hp;clear hp;go_wp2_with fail
    go_quiet (fail)
    go_wp2_with fail
    go_quiet (fail)
    go_wp2_with fail
    go_ret;have h3:=HP.o;exact AB (grownBy.drewN' (grownBy.drewN' HG.o _) _) HM.o (fun x hx=>by have h1:=(dm.1 hx).1;rw[mE]at h1;omega) (by omega) ((bR.o.drewN _).drewN _) _ (by rw[h3];rfl)
theorem Q3 (b:Nat)(s:ByteArray)(k:Nat)(w:World)(h:bN w b s k)(_hs:s.size≤1000000)(_hk:k≤s.size) :
 Calls Tryz.prog 151 #[.pointer (some ⟨b,0,none⟩)] w fun e w'=>w.grownBy w' (some b)∧e = .returned (.tuple #[])∧bN w' b s (k+((ax s k).takeWhile mY).length):=by
 have HW:=aa (aeH b s k w h _hs _hk);clear h;go_enter Tryz.func151,Tryz.ntmps151;go_wp2_with (go_at_call 181;((with_reducible refine HW.o.mono ?_);rintro e w1 ⟨h1,rfl,h2⟩;have H1:=aa h1;have H2:=aa h2;clear h1 h2))
 first
  | exact bodyPost_ret (results_none rfl _ _ _) rfl ⟨H1.o,rfl,H2.o⟩
  | (go_end0;exact⟨H1.o,rfl,H2.o⟩)
def jC(p l:List Int):Bool:=decide (l.take p.length=p)
theorem Nr:∀(l p:List UInt8),Lib.hasPrefix l p=jC (p.map fun x=>(x.toNat:Int)) (l.map fun x=>(x.toNat:Int))
 | l,[]=>by unfold Lib.hasPrefix jC;simp
 | [],x :: p=>by unfold Lib.hasPrefix jC;simp
 | y :: l,x :: p=>by
   have ih:=Nr l p;unfold Lib.hasPrefix jC at ih ⊢;rw[List.isPrefixOf_cons_cons,ih];simp only[jb,aK,List.take_succ_cons,List.cons.injEq];rw[Bool.eq_iff_iff,dE,beq_iff_eq,decide_eq_true_iff,decide_eq_true_iff];refine and_congr ⟨fun h=>by rw[h],fun h => ?_⟩ Iff.rfl;apply UInt8.toNat_inj.1;omega
theorem WX {p l:List Int}(h:jC p l=true):p.length≤l.length:=by
 unfold jC at h;rw[decide_eq_true_iff]at h;have:=congrArg List.length h;rw[gD]at this;omega
theorem P6 (s t:ByteArray)(k:Nat):Lib.hasPrefix (s.extract k s.size).data.toList t.data.toList=jC (sb t) (ax s k):=by
 rw[Nr];show jC (sb t) (sb (s.extract k s.size))=_;congr 1;by_cases hk:k≤s.size
 · have:=zU s k (s.size - k)
   rw[show k+(s.size - k)=s.size from by omega]at this;rw[this];unfold ax;rw[mK];rw[List.length_drop,bC];omega
 · have h1:(sb (s.extract k s.size)).length=0:=by rw[bC,ByteArray.size_extract];omega
   have h2:(ax s k).length=0:=by rw[mE];omega
   rw[l5 h1,l5 h2]
theorem Ri (b:Nat)(s t:ByteArray)(k:Nat)(w:World)(h:bN w b s k)(_hs:s.size≤1000000)(_hk:k≤s.size)(_ht:t.size≤1000000) :
 Calls Tryz.prog 232 #[.pointer (some ⟨b,0,none⟩),.string t] w fun e w'=>w.grownBy w' (some b)∧e = .returned (.bool (jC (sb t) (ax s k)))∧bN w' b s (if jC (sb t) (ax s k)=true then k+t.size else k):=by
 obtain⟨c0,c1⟩:=h.facts;have f1:=h.frozen 1;have HR:=aa h;clear h;have hz1:(0:Int)≤(k:Int):=by omega
 have hz2:(k:Int)≤(s.size:Int):=by omega
 cases hq:jC (sb t) (ax s k)
 · have HP:=aa (P6 s t k);rw[hq]at HP
   go_enter Tryz.func232,Tryz.ntmps232;go_wp2_with fail
   go_quiet ((go_at_call 245;exact Calls.quiet_of_same ((Tryz.strings_HasPrefix _ _ _).mono (fun _ _ ⟨a,c⟩=>⟨by rw[a,HP.o],c⟩))))
   go_wp2_with fail
   go_ret;exact⟨grownBy.drewN' (grownBy.refl' _ _) _,rfl,HR.o.drewN _⟩
 · have HP:=aa (P6 s t k);rw[hq]at HP
   have hle:=WX hq;rw[mE,bC]at hle;go_enter Tryz.func232,Tryz.ntmps232;go_wp2_with fail
   go_quiet ((go_at_call 245;exact Calls.quiet_of_same ((Tryz.strings_HasPrefix _ _ _).mono (fun _ _ ⟨a,c⟩=>⟨by rw[a,HP.o],c⟩))))
   go_wp2_with fail
   go_ret;exact⟨grownBy.setCell' (grownBy.drewN' (grownBy.refl' _ _) _) _ _,rfl,(HR.o.drewN _).rM (k+t.size)⟩
def vS(l:List Int):Bool:=decide (∀x∈l,(aG x||isNum x)=true)&&decide (l.length≤12)
theorem ZF (s:ByteArray)(k:Nat)(h:k<s.size)(hx:(aG ((sb s).getD k 0)||isNum ((sb s).getD k 0))=false):vS (sb s)=false:=by
 unfold vS;rw[Bool.and_eq_false_iff];left;rw[decide_eq_false_iff_not];intro hall;have:=hall ((sb s).getD k 0) (by rw[oN s k h];exact dz (oM s k h));rw[hx]at this;cases this
theorem ZE (s:ByteArray)(h:∀j,j<s.size→(aG ((sb s).getD j 0)||isNum ((sb s).getD j 0))=true):vS (sb s)=decide (s.size≤12):=by
 unfold vS;rw[decide_eq_true (show ∀x∈sb s,(aG x||isNum x)=true from ?_),Bool.true_and,bC];intro x hx;obtain⟨j,hj,rfl⟩:=List.mem_iff_getElem.1 hx;have:=h j (by rw[bC]at hj;exact hj);rw[iC,bn hj]at this;exact this
theorem X5 (s:ByteArray)(w:World)(_hs:s.size≤1000000) :
 Calls Tryz.prog 236 #[.string s] w fun e w'=>e = .returned (.bool (vS (sb s)))∧w=w':=by
 go_enter Tryz.func236,Tryz.ntmps236;go_wp2_with fail
 go_loopw [6] (fun i wr=>∃k:Nat,k≤s.size∧i = .int .i64 k∧Hid (∀j,j<k→(aG ((sb s).getD j 0)||isNum ((sb s).getD j 0))=true)∧w=wr)
  (fun i _=>s.size - (intOf i).toNat)
 case atStart=>exact⟨0,by omega,rfl,aa (by intro j hj;omega),rfl⟩
 case round =>
  obtain⟨k,hk,rfl,HG,rfl⟩:=hrel;by_cases hlt:k<s.size
  · have hki:(k:Int)<(s.size:Int):=by omega
    obtain⟨a,ha⟩:∃a:Int,(s[k].toNat:Int)=a:=⟨_,rfl⟩;have ha1:0≤a∧a≤255:=by have:=s[k].toNat_lt;omega
    have vo:=aa (show(sb s).getD k 0=a by rw[oN s k hlt,ha])
    have hnext:(aG a||isNum a)=true→∀j,j<k+1→(aG ((sb s).getD j 0)||isNum ((sb s).getD j 0))=true:=by
     intro h j hj;by_cases h1:j<k
     · exact HG.o j h1
     · rw[show j=k from by omega,vo.o];exact h
    have Bt:=aa hnext;clear hnext;cases hc:aG a
    · cases hn:isNum a
      · have ek:=aa (ZF s k hlt (by rw[vo.o,hc,hn];rfl))
        go_wp2_with (first
         | (go_at_call 233;((with_reducible refine(Cn _ ?_ ?_ _).mono ?_);(first|omega|skip);(first|omega|skip);rintro e w' ⟨rfl,rfl⟩;rw[hc]))
         | (go_at_call 210;((with_reducible refine(tT _ ?_ ?_ _).mono ?_);(first|omega|skip);(first|omega|skip);rintro e w' ⟨rfl,rfl⟩;rw[hn])))
        go_ret;exact⟨dD ek.o.symm,rfl⟩
      · go_wp2_with (first
         | (go_at_call 233;((with_reducible refine(Cn _ ?_ ?_ _).mono ?_);(first|omega|skip);(first|omega|skip);rintro e w' ⟨rfl,rfl⟩;rw[hc]))
         | (go_at_call 210;((with_reducible refine(tT _ ?_ ?_ _).mono ?_);(first|omega|skip);(first|omega|skip);rintro e w' ⟨rfl,rfl⟩;rw[hn])))
        go_roundw
        case rel=>exact⟨k+1,by omega,by go_num,aa (Bt.o (by rw[hc,hn];rfl)),by trivial⟩
        case measure=>simp[intOf];omega
    · go_wp2_with (first
       | (go_at_call 233;((with_reducible refine(Cn _ ?_ ?_ _).mono ?_);(first|omega|skip);(first|omega|skip);rintro e w' ⟨rfl,rfl⟩;rw[hc])))
      go_roundw
      case rel=>exact⟨k+1,by omega,by go_num,aa (Bt.o (by rw[hc];rfl)),by trivial⟩
      case measure=>simp[intOf];omega
  · have hki:¬ (k:Int)<(s.size:Int):=by omega
    have HA:=aa (ZE s (fun j hj=>HG.o j (by omega)));go_wp2_with fail
    go_ret;refine⟨dD (by rw[HA.o,decide_eq_decide];omega),rfl⟩
def oJ(c:Int):FuncId:=if isNum c=true then 211 else if c=34 then 212 else if c=35 then 213 else if mD c=true then 215 else 216
theorem Ps{c:Int}(h:isNum c=true):oJ c=211:=by unfold oJ;rw[if_pos h]
theorem Pt{c:Int}(h:isNum c=false)(h1:c=34):oJ c=212:=by unfold oJ;rw[if_neg (by simp[h]),if_pos h1]
theorem Pq{c:Int}(h:isNum c=false)(h1:¬ c=34)(h2:c=35):oJ c=213:=by unfold oJ;rw[if_neg (by simp[h]),if_neg h1,if_pos h2]
theorem Pw{c:Int}(h:isNum c=false)(h1:¬ c=34)(h2:¬ c=35)(h3:mD c=true):oJ c=215:=by unfold oJ;rw[if_neg (by simp[h]),if_neg h1,if_neg h2,if_pos h3]
theorem Pv{c:Int}(h:isNum c=false)(h1:¬ c=34)(h2:¬ c=35)(h3:mD c=false):oJ c=216:=by unfold oJ;rw[if_neg (by simp[h]),if_neg h1,if_neg h2,if_neg (by simp[h3])]
theorem Zl (c:Int)(_h0:0≤c)(_h1:c≤255)(w:World) :
 Calls Tryz.prog 183 #[.int .u8 c] w fun e w'=>e = .returned (.func (.func (oJ c)) #[] #[])∧w=w':=by
 cases hn:isNum c
 · by_cases cZ:c=34
   · have HM:=aa (Pt hn cZ)
     have hb1:(c == 34)=true:=beq_iff_eq.2 cZ;clear cZ;go_enter Tryz.func183,Tryz.ntmps183
     go_wp2_with (first
      | (go_at_call 210;((with_reducible refine(tT _ ?_ ?_ _).mono ?_);(first|omega|skip);(first|omega|skip);rintro e w' ⟨rfl,rfl⟩;rw[hn]))
      | (go_at_call 214;((with_reducible refine(wW _ ?_ ?_ _).mono ?_);(first|omega|skip);(first|omega|skip);rintro e w' ⟨rfl,rfl⟩;rw[hb])))
     all_goals go_ret
     all_goals exact⟨by rw[HM.o];rfl,rfl⟩
   · have hb1:(c == 34)=false:=beq_eq_false_iff_ne.2 cZ
     by_cases jg:c=35
     · have HM:=aa (Pq hn cZ jg)
       have hb2:(c == 35)=true:=beq_iff_eq.2 jg;clear cZ jg;go_enter Tryz.func183,Tryz.ntmps183
       go_wp2_with (first
        | (go_at_call 210;((with_reducible refine(tT _ ?_ ?_ _).mono ?_);(first|omega|skip);(first|omega|skip);rintro e w' ⟨rfl,rfl⟩;rw[hn]))
        | (go_at_call 214;((with_reducible refine(wW _ ?_ ?_ _).mono ?_);(first|omega|skip);(first|omega|skip);rintro e w' ⟨rfl,rfl⟩;rw[hb])))
       all_goals go_ret
       all_goals exact⟨by rw[HM.o];rfl,rfl⟩
     · have hb2:(c == 35)=false:=beq_eq_false_iff_ne.2 jg
       cases hb:mD c
       · have HM:=aa (Pv hn cZ jg hb)
         clear cZ jg;go_enter Tryz.func183,Tryz.ntmps183
         go_wp2_with (first
          | (go_at_call 210;((with_reducible refine(tT _ ?_ ?_ _).mono ?_);(first|omega|skip);(first|omega|skip);rintro e w' ⟨rfl,rfl⟩;rw[hn]))
          | (go_at_call 214;((with_reducible refine(wW _ ?_ ?_ _).mono ?_);(first|omega|skip);(first|omega|skip);rintro e w' ⟨rfl,rfl⟩;rw[hb])))
         all_goals go_ret
         all_goals exact⟨by rw[HM.o];rfl,rfl⟩
       · have HM:=aa (Pw hn cZ jg hb)
         clear cZ jg;go_enter Tryz.func183,Tryz.ntmps183
         go_wp2_with (first
          | (go_at_call 210;((with_reducible refine(tT _ ?_ ?_ _).mono ?_);(first|omega|skip);(first|omega|skip);rintro e w' ⟨rfl,rfl⟩;rw[hn]))
          | (go_at_call 214;((with_reducible refine(wW _ ?_ ?_ _).mono ?_);(first|omega|skip);(first|omega|skip);rintro e w' ⟨rfl,rfl⟩;rw[hb])))
         all_goals go_ret
         all_goals exact⟨by rw[HM.o];rfl,rfl⟩
 · have HM:=aa (Ps hn)
   go_enter Tryz.func183,Tryz.ntmps183
   go_wp2_with (first
    | (go_at_call 210;((with_reducible refine(tT _ ?_ ?_ _).mono ?_);(first|omega|skip);(first|omega|skip);rintro e w' ⟨rfl,rfl⟩;rw[hn]))
    | (go_at_call 214;((with_reducible refine(wW _ ?_ ?_ _).mono ?_);(first|omega|skip);(first|omega|skip);rintro e w' ⟨rfl,rfl⟩;skip)))
   all_goals go_ret
   all_goals exact⟨by rw[HM.o];rfl,rfl⟩
end Go.Proofs.YtdnooocmlhcpkaaGreatDoor
