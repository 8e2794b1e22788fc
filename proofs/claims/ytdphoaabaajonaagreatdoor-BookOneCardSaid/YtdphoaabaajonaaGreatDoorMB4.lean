/-
 Texts of layers, put together.
-/
import Derived.Test.YtdphoaabaajonaaGreatDoorMB3
import Derived.Lib.Builder
import Derived.Laws.Externs
import Derived.Lib.UnsafeStr
import Derived.Laws.Rows
import Derived.Deep.RegionLaw
namespace Go.Proofs.YtdphoaabaajonaaGreatDoor
open Go.RowKit
theorem tree_at {l:List Nd} (h:treeB l=true) {i:Int} (h0:0≤i) (h1:i<l.length):nodeB (nodeAt l i)=true∧∀ k∈(nodeAt l i).kids,0≤k∧k<i:=by
 have hi:i.toNat<l.length:=by omega
 have hn:l[i.toNat]? = some (nodeAt l i):=by
  unfold nodeAt;rw [List.getD_eq_getElem?_getD,List.getElem?_eq_getElem hi];rfl
 have:=tree_kids l [] 0 (by intro k hk;simp at hk) h i.toNat _ hn
 refine ⟨this.1,fun k hk => ?_⟩
 have:=this.2 k hk
 omega
theorem arms_kids {n:Nd} (h:nodeB n=true):(n.kind=8→n.kids.length=1)∧(9≤n.kind→n.kids.length=2)∧(1≤n.kind∧n.kind≤6→n.kids=[])∧1≤n.kind∧n.kind≤19∧leafB n=true:=by
 unfold nodeB at h
 rw [Bool.and_eq_true,Bool.or_eq_true,decide_eq_true_iff,decide_eq_true_iff] at h
 obtain ⟨h1,h2⟩:=h
 unfold armsN at h2
 split at h2
 · refine ⟨by omega,by omega,fun _ => ?_,by omega,by omega,h1⟩
   apply List.eq_nil_of_length_eq_zero
   omega
 · split at h2
   · exact ⟨by omega,by omega,by omega,by omega,by omega,h1⟩
   · split at h2
     · exact ⟨by omega,by omega,by omega,by omega,by omega,h1⟩
     · split at h2
       · exact ⟨by omega,by omega,by omega,by omega,by omega,h1⟩
       · omega
theorem kid_at {n:Nd} {j:Nat} (h:j<n.kids.length):n.kids.getD j 0∈n.kids:=by
 rw [List.getD_eq_getElem?_getD,List.getElem?_eq_getElem h];exact List.getElem_mem h
theorem shown_stab {l:List Nd} (h:treeB l=true):∀ (m f g:Nat) (i:Int),0≤i→i<l.length→i.toNat<m→i<f→i<g→shownL f l i=shownL g l i
 | 0,_,_,_,_,_,hm,_,_=>by omega
 | m + 1, f,g,i,h0,h1,hm,hf,hg=>by
   obtain ⟨f,rfl⟩:∃ f',f=f'+1:=⟨f - 1,by omega⟩
   obtain ⟨g,rfl⟩:∃ g',g=g'+1:=⟨g - 1,by omega⟩
   obtain ⟨hn,hk⟩:=tree_at h h0 h1
   have ih:∀ k∈(nodeAt l i).kids,shownL f l k=shownL g l k:=fun k hkm=>by
    have:=hk k hkm
    exact shown_stab h m f g k this.1 (by omega) (by omega) (by omega) (by omega)
   obtain ⟨a1,a2,_,_,_,_⟩:=arms_kids hn
   rw [shown_succ f l i _ rfl,shown_succ g l i _ rfl]
   by_cases k7:(nodeAt l i).kind=7
   · have:(nodeAt l i).kids.map (shownL f l)=(nodeAt l i).kids.map (shownL g l):=List.map_congr_left ih
     simp only [k7,this,reduceIte,Int.reduceEq]
   · by_cases k8:(nodeAt l i).kind=8
     · have e0:=ih _ (kid_at (j:=0) (by rw [a1 k8];omega))
       simp only [k8,e0,reduceIte,Int.reduceEq]
     · by_cases k9:9≤(nodeAt l i).kind
       · have e0:=ih _ (kid_at (j:=0) (by rw [a2 k9];omega))
         have e1:=ih _ (kid_at (j:=1) (by rw [a2 k9];omega))
         simp only [k7,if_false,e0,e1]
       · have:∀ k:Int,k≤8→k≠7→k≠8→1≤k→k=1∨k=2∨k=3∨k=4∨k=5∨k=6:=by omega
         rcases this (nodeAt l i).kind (by omega) k7 k8 (by omega) with e | e | e | e | e | e <;> simp [e]
def shN (l:List Nd) (i:Int):List Int:=shownL l.length l i
theorem shN_eq {l:List Nd} (h:treeB l=true) {i:Int} (h0:0≤i) (h1:i<l.length) (n:Nd) (hn:nodeAt l i=n):shN l i =
 if n.kind=1 then digL n.num.toNat
 else if n.kind=2 then 34 :: (dblL (sb n.text)++[34])
 else if n.kind=3 then (if n.num=1 then [84,82,85,69] else [70,65,76,83,69])
 else if n.kind=4 then [35,82,69,70,33]
 else if n.kind=5 then textL (sb n.ref.sh) n.ref.c n.ref.r n.ref.ac n.ref.ar
 else if n.kind=6 then textL (sb n.ref.sh) n.ref.c n.ref.r n.ref.ac n.ref.ar++58 :: textL (sb n.to.sh) n.to.c n.to.r n.to.ac n.to.ar
 else if n.kind=7 then sb n.text++40 :: (joinA (n.kids.map (shN l))++[41])
 else if n.kind=8 then 45 :: inL (decide (rankL (nodeAt l (n.kids.getD 0 0)).kind<4)) (shN l (n.kids.getD 0 0))
 else inL (decide (rankL (nodeAt l (n.kids.getD 0 0)).kind<rankL n.kind)) (shN l (n.kids.getD 0 0)) ++
  (opL (n.kind - 9).toNat++inL (decide (rankL (nodeAt l (n.kids.getD 1 0)).kind≤rankL n.kind)) (shN l (n.kids.getD 1 0))):=by
 have:=shown_stab h (i.toNat+1) l.length (l.length+1) i h0 h1 (by omega) h1 (by omega)
 unfold shN
 rw [this,shown_succ l.length l i n hn]
structure Pt where
 t:ByteArray
 node:Int
 least:Int
def Pt.plain (t:ByteArray):Pt:=⟨t,0,0⟩
def Pt.op (node least:Int):Pt:=⟨⟨#[]⟩,node,least⟩
def ptL (l:List Nd) (p:Pt):List Int:=if p.t=⟨#[]⟩ then inL (decide ((rankL (nodeAt l p.node).kind:Int)+1<p.least)) (shN l p.node) else sb p.t
def PtOk (l:List Nd) (p:Pt):Prop:=p.t=⟨#[]⟩→0≤p.node∧p.node<l.length
theorem ptL_op (l:List Nd) (i m:Int):ptL l (Pt.op i m)=inL (decide ((rankL (nodeAt l i).kind:Int)+1<m)) (shN l i):=by
 unfold ptL;rw [if_pos (show (Pt.op i m).t=⟨#[]⟩ from rfl)];rfl
theorem ptL_plain (l:List Nd) (t:ByteArray) (h:t≠⟨#[]⟩):ptL l (Pt.plain t)=sb t:=by
 unfold ptL;rw [if_neg (show ¬ (Pt.plain t).t=⟨#[]⟩ from h)];rfl
theorem PtOk.plain (l:List Nd) (t:ByteArray) (h:t≠⟨#[]⟩):PtOk l (Pt.plain t):=fun e=>absurd e h
theorem PtOk.op {l:List Nd} {i:Int} (h0:0≤i) (h1:i<l.length) (m:Int):PtOk l (Pt.op i m):=fun _=>⟨h0,h1⟩
def argP:List Int→List Pt
 | []=>[]
 | [a]=>[Pt.op a 1]
 | a :: b :: ks=>Pt.op a 1 :: Pt.plain ⟨#[44]⟩ :: argP (b :: ks)
theorem inL_any (l:List Nd) (i:Int):inL (decide ((rankL (nodeAt l i).kind:Int)+1<1)) (shN l i)=shN l i:=by
 rw [decide_eq_false (by omega)];rfl
theorem argP_L (l:List Nd):∀ ks:List Int,(argP ks).flatMap (ptL l)=joinA (ks.map (shN l))
 | []=>rfl
 | [a]=>by
   show ptL l (Pt.op a 1)++[]=shN l a
   rw [List.append_nil,ptL_op,inL_any]
 | a :: b :: ks=>by
   have ih:=argP_L l (b :: ks)
   show ptL l (Pt.op a 1)++(ptL l (Pt.plain ⟨#[44]⟩)++(argP (b :: ks)).flatMap (ptL l))=shN l a++44 :: joinA ((b :: ks).map (shN l))
   rw [ih,ptL_op,inL_any,ptL_plain l _ (by decide)];rfl
def stepN (n:Nd):List Int × List Pt :=
 if n.kind=1 then (digL n.num.toNat,[])
 else if n.kind=2 then (34 :: (dblL (sb n.text)++[34]),[])
 else if n.kind=3 then ((if n.num=1 then [84,82,85,69] else [70,65,76,83,69]),[])
 else if n.kind=4 then ([35,82,69,70,33],[])
 else if n.kind=5 then (textL (sb n.ref.sh) n.ref.c n.ref.r n.ref.ac n.ref.ar,[])
 else if n.kind=6 then (textL (sb n.ref.sh) n.ref.c n.ref.r n.ref.ac n.ref.ar++58 :: textL (sb n.to.sh) n.to.c n.to.r n.to.ac n.to.ar,[])
 else if n.kind=7 then (sb n.text++[40],argP n.kids++[Pt.plain ⟨#[41]⟩])
 else if n.kind=8 then ([45],[Pt.op (n.kids.getD 0 0) 5])
 else ([],[Pt.op (n.kids.getD 0 0) ((rankL n.kind:Int)+1),Pt.plain (opS.getD (n.kind - 9).toNat ⟨#[]⟩),Pt.op (n.kids.getD 1 0) ((rankL n.kind:Int)+2)])
theorem dec_eq {p q:Prop} [Decidable p] [Decidable q] (h:p↔q):decide p=decide q:=by rw [decide_eq_decide];exact h
theorem opS_ne:∀ o:Nat,o<11→opS.getD o ⟨#[]⟩≠⟨#[]⟩:=by decide
theorem stepN_L {l:List Nd} (h:treeB l=true) {i:Int} (h0:0≤i) (h1:i<l.length) (n:Nd) (hn:nodeAt l i=n):shN l i=(stepN n).1++(stepN n).2.flatMap (ptL l):=by
 obtain ⟨hnb, -⟩:=tree_at h h0 h1
 rw [hn] at hnb
 obtain ⟨-, -, -,b1,b2, -⟩:=arms_kids hnb
 rw [shN_eq h h0 h1 n hn]
 unfold stepN
 split
 · simp
 split
 · simp
 split
 · simp
 split
 · simp
 split
 · simp
 split
 · simp
 split
 · rw [List.flatMap_append,argP_L,List.flatMap_cons,List.flatMap_nil,ptL_plain l _ (by decide)]
   simp only [List.append_assoc,List.cons_append,List.nil_append,List.append_nil]
   rfl
 split
 · rw [List.flatMap_cons,List.flatMap_nil,ptL_op,List.append_nil,dec_eq (show (rankL (nodeAt l (n.kids.getD 0 0)).kind<4↔(rankL (nodeAt l (n.kids.getD 0 0)).kind:Int)+1<5) by omega)]
   rfl
 · have ho:(n.kind - 9).toNat<11:=by omega
   rw [List.flatMap_cons,List.flatMap_cons,List.flatMap_cons,List.flatMap_nil,ptL_op,ptL_op,ptL_plain l _ (opS_ne _ ho),(op_rank _ ho).2,List.append_nil,List.nil_append,
    dec_eq (show (rankL (nodeAt l (n.kids.getD 0 0)).kind<rankL n.kind↔(rankL (nodeAt l (n.kids.getD 0 0)).kind:Int)+1<(rankL n.kind:Int)+1) by omega),
    dec_eq (show (rankL (nodeAt l (n.kids.getD 1 0)).kind≤rankL n.kind↔(rankL (nodeAt l (n.kids.getD 1 0)).kind:Int)+1<(rankL n.kind:Int)+2) by omega)]
theorem argP_ok {l:List Nd}:∀ ks:List Int,(∀ k∈ks,0≤k∧k<(l.length:Int))→∀ p∈argP ks,PtOk l p
 | [],_,p,hp=>by simp [argP] at hp
 | [a],h,p,hp=>by
   simp [argP] at hp;subst hp
   exact PtOk.op (h a (by simp)).1 (h a (by simp)).2 1
 | a :: b :: ks,h,p,hp=>by
   simp only [argP,List.mem_cons] at hp
   rcases hp with rfl | rfl | hp
   · exact PtOk.op (h a (by simp)).1 (h a (by simp)).2 1
   · exact PtOk.plain l _ (by decide)
   · exact argP_ok (b :: ks) (fun k hk=>h k (List.mem_cons_of_mem _ hk)) p hp
theorem stepN_ok {l:List Nd} (h:treeB l=true) {i:Int} (h0:0≤i) (h1:i<l.length) (n:Nd) (hn:nodeAt l i=n):∀ p∈(stepN n).2,PtOk l p:=by
 obtain ⟨hnb,hk⟩:=tree_at h h0 h1
 rw [hn] at hnb hk
 obtain ⟨a1,a2, -,b1,b2, -⟩:=arms_kids hnb
 have hkl:∀ k∈n.kids,0≤k∧k<(l.length:Int):=fun k hkm=>by have:=hk k hkm;omega
 intro p hp
 unfold stepN at hp
 split at hp
 · simp at hp
 split at hp
 · simp at hp
 split at hp
 · simp at hp
 split at hp
 · simp at hp
 split at hp
 · simp at hp
 split at hp
 · simp at hp
 split at hp
 · rcases List.mem_append.1 hp with hp | hp
   · exact argP_ok _ hkl p hp
   · rw [List.mem_singleton.1 hp];exact PtOk.plain l _ (by decide)
 split at hp
 · rename_i k8
   rw [List.mem_singleton.1 hp]
   have:=hkl _ (kid_at (n:=n) (j:=0) (by rw [a1 k8];omega))
   exact PtOk.op this.1 this.2 5
 · have k9:9≤n.kind:=by omega
   have g0:=hkl _ (kid_at (n:=n) (j:=0) (by rw [a2 k9];omega))
   have g1:=hkl _ (kid_at (n:=n) (j:=1) (by rw [a2 k9];omega))
   simp only [List.mem_cons,List.not_mem_nil,or_false] at hp
   rcases hp with rfl | rfl | rfl
   · exact PtOk.op g0.1 g0.2 _
   · exact PtOk.plain l _ (opS_ne _ (by omega))
   · exact PtOk.op g1.1 g1.2 _
def stepP (l:List Nd) (p:Pt):List Int × List Pt :=
 if p.t=⟨#[]⟩ then (if (rankL (nodeAt l p.node).kind:Int)+1<p.least then (40 :: (stepN (nodeAt l p.node)).1,(stepN (nodeAt l p.node)).2++[Pt.plain ⟨#[41]⟩]) else stepN (nodeAt l p.node)) else (sb p.t,[])
theorem stepP_L {l:List Nd} (h:treeB l=true) (p:Pt) (hp:PtOk l p):ptL l p=(stepP l p).1++(stepP l p).2.flatMap (ptL l):=by
 rw [show ptL l p=if p.t=⟨#[]⟩ then inL (decide ((rankL (nodeAt l p.node).kind:Int)+1<p.least)) (shN l p.node) else sb p.t from rfl]
 unfold stepP
 by_cases ht:p.t=⟨#[]⟩
 · obtain ⟨h0,h1⟩:=hp ht
   rw [if_pos ht,if_pos ht,stepN_L h h0 h1 _ rfl]
   by_cases hr:(rankL (nodeAt l p.node).kind:Int)+1<p.least
   · rw [if_pos hr,decide_eq_true hr,List.flatMap_append,List.flatMap_cons,List.flatMap_nil,ptL_plain l _ (by decide)]
     show 40 :: (((stepN (nodeAt l p.node)).1++(stepN (nodeAt l p.node)).2.flatMap (ptL l))++[41])=_
     simp only [List.append_assoc,List.cons_append,List.append_nil];rfl
   · rw [if_neg hr,decide_eq_false hr];rfl
 · rw [if_neg ht,if_neg ht];simp
theorem stepP_ok {l:List Nd} (h:treeB l=true) (p:Pt) (hp:PtOk l p):∀ q∈(stepP l p).2,PtOk l q:=by
 unfold stepP
 by_cases ht:p.t=⟨#[]⟩
 · obtain ⟨h0,h1⟩:=hp ht
   rw [if_pos ht]
   have:=stepN_ok h h0 h1 _ rfl
   by_cases hr:(rankL (nodeAt l p.node).kind:Int)+1<p.least
   · rw [if_pos hr]
     intro q hq
     rcases List.mem_append.1 hq with hq | hq
     · exact this q hq
     · rw [List.mem_singleton.1 hq];exact PtOk.plain l _ (by decide)
   · rw [if_neg hr];exact this
 · rw [if_neg ht];intro q hq;simp at hq
theorem tok_word {x:Int} {l:List Int} (hall:∀ y∈x :: l,isWord y=true) (hx:isLet x=true∨x=36):tokT (x :: l++[32])=(match readS (strOfNums (x :: l)) with
 | some d=>some ({ Tk.zero with kind:=4,sh:=d.sh,c:=d.c,r:=d.r,ac:=d.ac,ar:=d.ar },(x :: l).length)
 | none=>if calledL (x :: l)=true then some ({ Tk.zero with kind:=3,text:=strOfNums (x :: l) },(x :: l).length) else none):=by
 have h1:¬ isNum x=true:=by
  rcases hx with hx | hx
  · unfold isLet at hx;unfold isNum;rw [decide_eq_true_iff] at hx ⊢;omega
  · subst hx;decide
 have h2:¬ x=34∧¬ x=35:=by
  rcases hx with hx | hx
  · unfold isLet at hx;rw [decide_eq_true_iff] at hx;omega
  · omega
 have ht:(x :: (l++[32])).takeWhile isWord=x :: l:=take_part isWord (x :: l) [32] hall (fun y hy=>by simp at hy;subst hy;decide)
 rw [List.cons_append,tokT_cons,if_neg h1,if_neg h2.1,if_neg h2.2,if_pos hx]
 unfold wordT
 rw [ht]
 rfl
def tkNum (n:Int):Tk:={ Tk.zero with kind:=1,num:=n }
def tkText (s:ByteArray):Tk:={ Tk.zero with kind:=2,text:=s }
def tkName (s:ByteArray):Tk:={ Tk.zero with kind:=3,text:=s }
def tkRef (r:Rf):Tk:={ Tk.zero with kind:=4,sh:=r.sh,c:=r.c,r:=r.r,ac:=r.ac,ar:=r.ar }
def tkSign (s:ByteArray):Tk:={ Tk.zero with kind:=5,text:=s }
def tkDead:Tk:={ Tk.zero with kind:=6 }
theorem tok_num {n:Int} (h0:0≤n) (h:n≤9223372036854775807):Tok (tkNum n):=by
 have e:txK (tkNum n)=digL n.toNat:=rfl
 refine ⟨(by simp [tkNum]), ?_,by rw [e];exact bytes_digL _⟩
 have:=tok_digits n.toNat (by omega) [32] (fun x hx=>by simp at hx;subst hx;decide)
 rw [e,this,Int.toNat_of_nonneg h0];rfl
theorem bytes_dbl:∀ l:List Int,Bytes l→Bytes (dblL l)
 | [],_=>Bytes.nil
 | x :: l,h=>by
   have ih:=bytes_dbl l (fun y hy=>h y (by simp [hy]))
   show Bytes ((if x=34 then [34,34] else [x])++dblL l)
   refine Bytes.append ?_ ih
   split
   · intro y hy;simp at hy;omega
   · intro y hy;simp at hy;subst hy;exact h y (by simp)
theorem tok_quote {s:ByteArray} (h:printB (sb s)=true):Tok (tkText s):=by
 have e:txK (tkText s)=34 :: (dblL (sb s)++[34]):=rfl
 have hb:Bytes [34]:=by intro x hx;simp at hx;omega
 refine ⟨(by simp [tkText]), ?_,by rw [e];exact Bytes.append (a:=[34]) hb ((bytes_dbl _ (sb_bd s)).append hb)⟩
 unfold printB at h
 have:=quoF_dblB (sb s) [32] (of_decide_eq_true h) (fun x hx=>by simp at hx;omega)
 rw [e,List.cons_append,tokT_cons,if_neg (by decide),if_pos rfl]
 unfold quoT
 rw [List.append_assoc,List.singleton_append,this]
 simp only [Option.map_some,Option.some.injEq,Prod.mk.injEq,str_sb,List.length_cons,List.length_append,List.length_nil]
 first
  | rfl
  | exact ⟨rfl,trivial⟩
theorem tok_name {s:ByteArray} (h:calledL (sb s)=true) (hr:(readS s).isNone=true):Tok (tkName s):=by
 have e:txK (tkName s)=sb s:=rfl
 refine ⟨(by simp [tkName]), ?_,by rw [e];exact sb_bd s⟩
 have hc:=h
 unfold calledL at hc
 rw [Bool.and_eq_true,Bool.and_eq_true,decide_eq_true_iff,decide_eq_true_iff] at hc
 obtain ⟨c1,c2,c3⟩:=hc
 have hs:=str_sb s
 rw [e]
 cases hq:sb s with
 | nil=>rw [hq] at c2;simp at c2
 | cons x l =>
   rw [hq] at c1 c3 hs h
   have hall:∀ y∈x :: l,isWord y=true:=by
    intro y hy
    have:=c1 y hy
    rw [Bool.or_eq_true] at this
    rcases this with g | g
    · exact word_cap g
    · exact word_num g
   have hx:isLet x=true:=by
    have hx:isCap x=true:=by simpa using c3
    unfold isCap at hx;unfold isLet;rw [decide_eq_true_iff] at hx ⊢;omega
   rw [tok_word hall (.inl hx),hs]
   cases hd:readS s with
   | some d=>rw [hd] at hr;cases hr
   | none=>simp only;rw [if_pos h];rfl
theorem tok_ref {r:Rf} (h:mayRf r=true):Tok (tkRef r):=by
 have e:txK (tkRef r)=textL (sb r.sh) r.c r.r r.ac r.ar:=rfl
 refine ⟨(by simp [tkRef]), ?_,by rw [e];exact bytes_textL _ _ _ _ _⟩
 obtain ⟨x,l,hd,hx⟩:=textL_head (sb r.sh) r.c r.r r.ac r.ar h
 have hall:=word_textL (sb r.sh) r.c r.r r.ac r.ar h
 obtain ⟨d,hr,e1,e2,e3,e4,e5⟩:=read_text r.sh r.c r.r r.ac r.ar h
 rw [e]
 rw [hd] at hall hr ⊢
 rw [tok_word hall hx,hr]
 simp only [e1,e2,e3,e4,e5]
 rfl
def tokB (t:Tk):Bool:=match tokT (txK t++[32]) with
 | some (u,n)=>decide (n=(txK t).length)&&(decide (u.kind=t.kind∧u.text=t.text∧u.num=t.num∧u.sh=t.sh∧u.c=t.c∧u.r=t.r∧u.pos=0)&&(u.ac == t.ac&&u.ar == t.ar))
 | none=>false
theorem tok_of {t:Tk} (h:tokB t=true) (hk:t.kind≠0) (hb:Bytes (txK t)):Tok t:=by
 refine ⟨hk, ?_,hb⟩
 unfold tokB at h
 cases hq:tokT (txK t++[32]) with
 | none=>rw [hq] at h;cases h
 | some q =>
   obtain ⟨u,n⟩:=q
   rw [hq] at h
   simp only [Bool.and_eq_true,decide_eq_true_iff,beq_iff_eq] at h
   obtain ⟨h1,⟨g1,g2,g3,g4,g5,g6,g7⟩,g8,g9⟩:=h
   rw [h1]
   have:u=t.goto 0:=by
    cases u;cases t;simp only [Tk.goto] at *;subst g1 g2 g3 g4 g5 g6 g7 g8 g9;rfl
   rw [this]
def signs:List ByteArray:=[⟨#[40]⟩,⟨#[41]⟩,⟨#[44]⟩,⟨#[58]⟩]++opS
theorem signs_all:signs.all (fun s=>tokB (tkSign s)&&(txK (tkSign s)).all fun x=>decide (0≤x∧x≤255))=true:=by decide +kernel
theorem dead_all:(tokB tkDead&&(txK tkDead).all fun x=>decide (0≤x∧x≤255))=true:=by decide +kernel
theorem tok_sign {s:ByteArray} (h:s∈signs):Tok (tkSign s)∧IsS s (tkSign s):=by
 have:=List.all_eq_true.1 signs_all s h
 rw [Bool.and_eq_true] at this
 refine ⟨tok_of this.1 (by decide +revert) ?_,rfl,rfl⟩
 intro x hx
 simpa using List.all_eq_true.1 this.2 x hx
theorem tok_dead':Tok tkDead:=by
 have:=dead_all
 rw [Bool.and_eq_true] at this
 refine ⟨by decide,(tok_of this.1 (by decide) ?_).2.1, ?_⟩
 all_goals
  intro x hx
  simpa using List.all_eq_true.1 this.2 x hx
theorem noRf_is {r:Rf} (h:noRf r=true):r=Rf.zero:=by
 unfold noRf at h
 rw [Bool.and_eq_true,decide_eq_true_iff,Bool.and_eq_true] at h
 obtain ⟨⟨h1,h2,h3⟩,h4,h5⟩:=h
 cases r with
 | mk sh c r ac ar =>
   simp only at h1 h2 h3 h4 h5
   subst h1 h2 h3
   cases ac <;> cases ar <;> simp at h4 h5
   rfl
theorem leaf_facts {n:Nd} (h:leafB n=true):(n.kind=1∨n.kind=3∨n.num=0)∧(n.kind=2∨n.kind=7∨n.text=⟨#[]⟩)∧(n.kind=5∨n.kind=6∨n.ref=Rf.zero)∧(n.kind=6∨n.to=Rf.zero) ∧
 (if n.kind=1 then decide (0≤n.num)
   else if n.kind=3 then decide (n.num=0∨n.num=1)
   else if n.kind=2 then printB (sb n.text)
   else if n.kind=7 then callB n.text
   else if n.kind=5 then mayRf n.ref
   else if n.kind=6 then mayRf n.ref&&(mayRf n.to&&spanB n.ref n.to)
   else true)=true:=by
 unfold leafB at h
 by_cases c:(n.kind≠1∧n.kind≠3∧n.num≠0)∨(n.kind≠2∧n.kind≠7∧n.text≠⟨#[]⟩)∨(n.kind≠5∧n.kind≠6∧noRf n.ref=false)∨(n.kind≠6∧noRf n.to=false)
 · rw [if_pos c] at h;cases h
 · rw [if_neg c] at h
   refine ⟨?_, ?_, ?_, ?_,h⟩
   · apply Decidable.byContradiction;intro d;exact c (.inl ⟨fun e=>d (.inl e),fun e=>d (.inr (.inl e)),fun e=>d (.inr (.inr e))⟩)
   · by_cases d1:n.kind=2
     · exact .inl d1
     · by_cases d2:n.kind=7
       · exact .inr (.inl d2)
       · by_cases d3:n.text=⟨#[]⟩
         · exact .inr (.inr d3)
         · exact absurd (.inr (.inl ⟨d1,d2,d3⟩)) c
   · by_cases d1:n.kind=5
     · exact .inl d1
     · by_cases d2:n.kind=6
       · exact .inr (.inl d2)
       · cases d3:noRf n.ref with
         | true=>exact .inr (.inr (noRf_is d3))
         | false=>exact absurd (.inr (.inr (.inl ⟨d1,d2,d3⟩))) c
   · by_cases d2:n.kind=6
     · exact .inl d2
     · cases d3:noRf n.to with
       | true=>exact .inr (noRf_is d3)
       | false=>exact absurd (.inr (.inr (.inr ⟨d2,d3⟩))) c
theorem leaf_tok {n:Nd} (h:leafB n=true) (h1:1≤n.kind) (h2:n.kind≤6) (hk:n.kids=[]) (hm:n.num≤9223372036854775807):∃ ts,LeafS ts n∧∀ t∈ts,Tok t:=by
 obtain ⟨f1,f2,f3,f4,f5⟩:=leaf_facts h
 cases n with
 | mk kind num text ref to kids =>
   simp only at f1 f2 f3 f4 f5 h1 h2 hk hm
   subst hk
   by_cases c1:kind=1
   · subst c1
     rw [if_pos rfl] at f5
     obtain rfl:=(f2.resolve_left (by omega)).resolve_left (by omega)
     obtain rfl:=(f3.resolve_left (by omega)).resolve_left (by omega)
     obtain rfl:=f4.resolve_left (by omega)
     exact ⟨[tkNum num],.num (tkNum num) rfl,by intro t ht;simp at ht;subst ht;exact tok_num (of_decide_eq_true f5) hm⟩
   · rw [if_neg c1] at f5
     by_cases c3:kind=3
     · subst c3
       rw [if_pos rfl] at f5
       obtain rfl:=(f2.resolve_left (by omega)).resolve_left (by omega)
       obtain rfl:=(f3.resolve_left (by omega)).resolve_left (by omega)
       obtain rfl:=f4.resolve_left (by omega)
       have hw:∀ s:ByteArray,s=⟨#[84,82,85,69]⟩∨s=⟨#[70,65,76,83,69]⟩→Tok (tkName s):=by
        intro s hs
        rcases hs with rfl | rfl
        · exact tok_name (by decide +kernel) (by decide +kernel)
        · exact tok_name (by decide +kernel) (by decide +kernel)
       rcases of_decide_eq_true f5 with rfl | rfl
       · exact ⟨[tkName ⟨#[70,65,76,83,69]⟩],.no (tkName _) rfl rfl,by intro t ht;simp at ht;subst ht;exact hw _ (.inr rfl)⟩
       · exact ⟨[tkName ⟨#[84,82,85,69]⟩],.yes (tkName _) rfl rfl,by intro t ht;simp at ht;subst ht;exact hw _ (.inl rfl)⟩
     · rw [if_neg c3] at f5
       obtain rfl:=(f1.resolve_left c1).resolve_left c3
       by_cases c2:kind=2
       · subst c2
         rw [if_pos rfl] at f5
         obtain rfl:=(f3.resolve_left (by omega)).resolve_left (by omega)
         obtain rfl:=f4.resolve_left (by omega)
         exact ⟨[tkText text],.text (tkText text) rfl,by intro t ht;simp at ht;subst ht;exact tok_quote f5⟩
       · rw [if_neg c2,if_neg (by omega)] at f5
         obtain rfl:=(f2.resolve_left c2).resolve_left (by omega)
         by_cases c5:kind=5
         · subst c5
           rw [if_pos rfl] at f5
           obtain rfl:=f4.resolve_left (by omega)
           exact ⟨[tkRef ref],.ref (tkRef ref) rfl,by intro t ht;simp at ht;subst ht;exact tok_ref f5⟩
         · rw [if_neg c5] at f5
           by_cases c6:kind=6
           · subst c6
             rw [if_pos rfl,Bool.and_eq_true,Bool.and_eq_true] at f5
             obtain ⟨g,gs⟩:=tok_sign (s:=⟨#[58]⟩) (by simp [signs,opS])
             refine ⟨[tkRef ref,tkSign ⟨#[58]⟩,tkRef to],.range (tkRef ref) _ (tkRef to) rfl gs rfl f5.2.2, ?_⟩
             intro t ht
             simp at ht
             rcases ht with rfl | rfl | rfl
             · exact tok_ref f5.1
             · exact g
             · exact tok_ref f5.2.1
           · obtain rfl:kind=4:=by omega
             obtain rfl:=(f3.resolve_left (by omega)).resolve_left (by omega)
             obtain rfl:=f4.resolve_left (by omega)
             exact ⟨[tkDead],.dead tkDead rfl,by intro t ht;simp at ht;subst ht;exact tok_dead'⟩
theorem wr_tok (n rk d:Nat) (ts:List Tk) (h:∀ t∈ts,Tok t):∃ d' ts',Wr n rk d ts d' ts'∧∀ t∈ts',Tok t:=by
 by_cases c:n≤rk
 · exact ⟨d,ts,.inl ⟨c,rfl,rfl⟩,h⟩
 · obtain ⟨g1,s1⟩:=tok_sign (s:=⟨#[40]⟩) (by simp [signs,opS])
   obtain ⟨g2,s2⟩:=tok_sign (s:=⟨#[41]⟩) (by simp [signs,opS])
   refine ⟨d+1,_,.inr ⟨by omega,rfl,_,_,s1,s2,rfl⟩, ?_⟩
   intro t ht
   rcases List.mem_cons.1 ht with rfl | ht
   · exact g1
   · rcases List.mem_append.1 ht with ht | ht
     · exact h t ht
     · simp at ht;subst ht;exact g2
inductive FS:Nat→List Nd→List Int→Prop
 | nil:FS 0 [] []
 | snoc (i:Nat) (done:List Nd) (st:List Int) (h:FS i done st) (ns:List Nd) (a:Int) (ts:List Tk) (rk d:Nat) (g:Sh false i ns [a] ts rk d) (ht:∀ t∈ts,Tok t):FS (i+ns.length) (done++ns) (st++[a])
theorem FS.last {i:Nat} {all:List Nd} {st:List Int} {a:Int} (h:FS i all (st++[a])):∃ j done ns ts rk d,FS j done st∧all=done++ns∧i=j+ns.length∧Sh false j ns [a] ts rk d∧∀ t∈ts,Tok t:=by
 generalize e:st++[a]=st' at h
 cases h with
 | nil=>simp at e
 | snoc j done st0 h ns a0 ts rk d g ht =>
   obtain ⟨rfl,e2⟩:=List.append_inj' e rfl
   injection e2 with e2 _
   subst e2
   exact ⟨j,done,ns,ts,rk,d,h,rfl,rfl,g,ht⟩
theorem FS.nil_is {i:Nat} {done:List Nd} {st:List Int} (h:FS i done st) (e:st=[]):done=[]∧i=0:=by
 cases h with
 | nil=>exact ⟨rfl,rfl⟩
 | snoc=>simp at e
theorem sh_none {base:Nat} {ns:List Nd} {ks:List Int} {ts:List Tk} {rq d:Nat} (h:Sh true base ns ks ts rq d) (e:ks=[]):ns=[]∧ts=[]:=by
 cases h with
 | none=>exact ⟨rfl,rfl⟩
 | one=>cases e
 | and=>simp at e
theorem FS.many:∀ (m:Nat) (ks:List Int),ks.length=m→∀ (i:Nat) (all:List Nd) (st:List Int),FS i all (st++ks)→∃ j done ns ts d,FS j done st∧all=done++ns∧i=j+ns.length∧Sh true j ns ks ts 0 d∧∀ t∈ts,Tok t
 | 0,ks,hk,i,all,st,h=>by
   obtain rfl:=List.eq_nil_of_length_eq_zero hk
   rw [List.append_nil] at h
   exact ⟨i,all,[],[],0,h,by simp,by simp,.none i,by simp⟩
 | m + 1,ks,hk,i,all,st,h=>by
   obtain ⟨ks',b,rfl⟩:∃ ks' b,ks=ks'++[b]:=⟨ks.dropLast,ks.getLast (by rintro rfl;simp at hk),(List.dropLast_concat_getLast _).symm⟩
   rw [← List.append_assoc] at h
   obtain ⟨j,done,ns,ts,rk,d,h1,rfl,rfl,h2,h3⟩:=h.last
   obtain ⟨j',done',ns',ts',d',g1,rfl,rfl,g2,g3⟩:=FS.many m ks' (by simpa using hk) j done st h1
   by_cases c:ks'=[]
   · subst c
     obtain ⟨rfl,rfl⟩:=sh_none g2 rfl
     exact ⟨j',done',ns,ts,d,g1,by simp,by simp,.one j' ns b ts rk d (by simpa using h2),h3⟩
   · obtain ⟨gc,sc⟩:=tok_sign (s:=⟨#[44]⟩) (by simp [signs,opS])
     refine ⟨j',done',ns'++ns,_,_,g1,by rw [List.append_assoc],by rw [List.length_append,Nat.add_assoc],.and j' ns' ns ks' b ts' ts rk d' d g2 c _ sc h2, ?_⟩
     intro t ht
     rcases List.mem_append.1 ht with ht | ht
     · exact g3 t ht
     · rcases List.mem_cons.1 ht with rfl | ht
       · exact gc
       · exact h3 t ht
theorem tree_fs:∀ (ns:List Nd) (i:Nat) (done:List Nd) (st:List Int),FS i done st→treeF st i ns=true→(∀ n∈ns,n.num≤9223372036854775807)→∃ a,FS (i+ns.length) (done++ns) [a]
 | [],i,done,st,h,ht,_=>by
   have:st.length=1:=of_decide_eq_true ht
   match st,this with
   | [a],_=>exact ⟨a,by simpa using h⟩
 | n :: ns, i,done,st,h,ht,hm=>by
   rw [treeF_cons,Bool.and_eq_true,Bool.and_eq_true,Bool.and_eq_true,decide_eq_true_iff,decide_eq_true_iff] at ht
   obtain ⟨h1,h2,h3,h4⟩:=ht
   have hst:st=st.take (st.length - n.kids.length)++n.kids:=by conv=>lhs;rw [← List.take_append_drop (st.length - n.kids.length) st,h3]
   generalize st.take (st.length - n.kids.length)=st0 at hst h4
   subst hst
   unfold nodeB at h1
   rw [Bool.and_eq_true,Bool.or_eq_true,decide_eq_true_iff,decide_eq_true_iff] at h1
   obtain ⟨hl,ha⟩:=h1
   have hfs : FS (i+1) (done++[n]) (st0++[(i:Int)]):=by
    by_cases c1:1≤n.kind∧n.kind≤6
    · have hk:n.kids=[]:=by
       unfold armsN at ha;rw [if_pos c1] at ha
       exact List.eq_nil_of_length_eq_zero (by omega)
      rw [hk,List.append_nil] at h
      obtain ⟨ts,g1,g2⟩:=leaf_tok hl c1.1 c1.2 hk (hm n (by simp))
      exact .snoc i done st0 h [n] _ ts 5 0 (.leaf i ts n g1) g2
    · obtain ⟨f1,f2,f3,f4,f5⟩:=leaf_facts hl
      have e1:n.num=0:=(f1.resolve_left (by omega)).resolve_left (by omega)
      have e3:n.ref=Rf.zero:=(f3.resolve_left (by omega)).resolve_left (by omega)
      have e4:n.to=Rf.zero:=f4.resolve_left (by omega)
      rw [if_neg (by omega),if_neg (by omega),if_neg (by omega)] at f5
      by_cases c7:n.kind=7
      · rw [if_pos c7] at f5
        unfold callB at f5
        rw [Bool.and_eq_true,Bool.and_eq_true,Bool.and_eq_true,decide_eq_true_iff,decide_eq_true_iff] at f5
        obtain ⟨j,done',ms,ts,d,g1,rfl,rfl,g2,g3⟩:=FS.many _ n.kids rfl i done st0 h
        obtain ⟨gl,sl⟩:=tok_sign (s:=⟨#[40]⟩) (by simp [signs,opS])
        obtain ⟨gr,sr⟩:=tok_sign (s:=⟨#[41]⟩) (by simp [signs,opS])
        have gn:=tok_name f5.1 f5.2.1
        have hn:n={ Nd.zero with kind:=7,text:=(tkName n.text).text,kids:=n.kids }:=by
         cases n;simp only at e1 e3 e4 c7;subst e1 e3 e4 c7;rfl
        have hsh:=Sh.call j ms n.kids ts d g2 (tkName n.text) _ _ rfl f5.2.2.1 f5.2.2.2 sl sr
        rw [← hn] at hsh
        have := FS.snoc j done' st0 g1 (ms++[n]) _ _ _ _ hsh (by
         intro t ht
         rcases List.mem_cons.1 ht with rfl | ht
         · exact gn
         · rcases List.mem_cons.1 ht with rfl | ht
           · exact gl
           · rcases List.mem_append.1 ht with ht | ht
             · exact g3 t ht
             · simp at ht;subst ht;exact gr)
        rw [List.length_append,List.length_singleton, ← Nat.add_assoc, ← List.append_assoc] at this
        exact this
      · have e2:n.text=⟨#[]⟩:=(f2.resolve_left (by omega)).resolve_left c7
        by_cases c8:n.kind=8
        · have hk:n.kids.length=1:=by
           unfold armsN at ha
           rw [if_neg c1,if_neg c7,if_pos c8] at ha;omega
          obtain ⟨b,hb⟩:∃ b,n.kids=[b]:=by
           match hq:n.kids,hk with
           | [b],_=>exact ⟨b,rfl⟩
          rw [hb] at h
          obtain ⟨j,done',ms,ts,rk',d,g1,rfl,rfl,g2,g3⟩:=h.last
          obtain ⟨d',ts',hw,g4⟩:=wr_tok 4 rk' d ts g3
          obtain ⟨gm,sm⟩:=tok_sign (s:=⟨#[45]⟩) (by simp [signs,opS])
          have hn:n={ Nd.zero with kind:=8,kids:=[b] }:=by
           cases n;simp only at e1 e2 e3 e4 c8 hb;subst e1 e2 e3 e4 c8 hb;rfl
          have hsh:=Sh.neg j ms b ts rk' d g2 _ sm d' ts' hw
          rw [← hn] at hsh
          have:=FS.snoc j done' st0 g1 (ms++[n]) _ _ _ _ hsh (by
           intro t ht
           rcases List.mem_cons.1 ht with rfl | ht
           · exact gm
           · exact g4 t ht)
          rw [List.length_append,List.length_singleton, ← Nat.add_assoc, ← List.append_assoc] at this
          exact this
        · have hk:n.kids.length=2∧9≤n.kind∧n.kind≤19:=by
           unfold armsN at ha
           rw [if_neg c1,if_neg c7,if_neg c8] at ha
           by_cases c9:9≤n.kind∧n.kind≤19
           · rw [if_pos c9] at ha;omega
           · rw [if_neg c9] at ha;omega
          obtain ⟨b,b',hb⟩:∃ b b',n.kids=[b,b']:=by
           match hq:n.kids,hk.1 with
           | [b,b'],_=>exact ⟨b,b',rfl⟩
          rw [hb,show st0++[b,b']=(st0++[b])++[b'] by simp] at h
          obtain ⟨j2,done2,ms2,ts2,rk2,d2,k1,rfl,rfl,k2,k3⟩:=h.last
          obtain ⟨j,done',ms,ts,rk',d,g1,rfl,rfl,g2,g3⟩:=k1.last
          obtain ⟨o,ho,hko⟩:∃ o:Nat,o<11∧n.kind=9+(o:Int):=⟨(n.kind - 9).toNat,by omega,by omega⟩
          obtain ⟨x1,ts',hw,g4⟩:=wr_tok (rk o) rk' d ts g3
          obtain ⟨x2,ts2',hw2,k4⟩:=wr_tok (rk o+1) rk2 d2 ts2 k3
          have hin:opS.getD o ⟨#[]⟩∈signs:=by
           have hlen:o<opS.length:=ho
           rw [List.getD_eq_getElem?_getD,List.getElem?_eq_getElem hlen,Option.getD_some]
           exact List.mem_append_right _ (List.getElem_mem _)
          obtain ⟨gm,sm⟩:=tok_sign hin
          have hn:n={ Nd.zero with kind:=9+(o:Int),kids:=[b,b'] }:=by
           cases n;simp only at e1 e2 e3 e4 hko hb;subst e1 e2 e3 e4 hko hb;rfl
          have hsh:=Sh.op j o ho ms ms2 b b' ts ts2 rk' rk2 d d2 g2 k2 _ sm x1 x2 ts' ts2' hw hw2
          rw [← hn] at hsh
          have:=FS.snoc j done' st0 g1 (ms++(ms2++[n])) _ _ _ _ hsh (by
           intro t ht
           rcases List.mem_append.1 ht with ht | ht
           · exact g4 t ht
           · rcases List.mem_cons.1 ht with rfl | ht
             · exact gm
             · exact k4 t ht)
          have e5:j+(ms++(ms2++[n])).length=j+ms.length+ms2.length+1:=by simp;omega
          have e6:done'++(ms++(ms2++[n]))=done'++ms++ms2++[n]:=by simp
          have e7:j+(ms.length+ms2.length)=j+ms.length+ms2.length:=by omega
          rw [e5,e6,e7] at this
          exact this
   obtain ⟨a,ha'⟩:=tree_fs ns (i+1) (done++[n]) _ hfs h4 (fun m hm'=>hm m (by simp [hm']))
   refine ⟨a, ?_⟩
   rw [List.append_assoc,List.singleton_append] at ha'
   rw [List.length_cons,show i+(ns.length+1)=i+1+ns.length by omega]
   exact ha'
theorem tree_sh {ns:List Nd} (h:treeB ns=true) (hm:∀ n∈ns,n.num≤9223372036854775807):∃ a ts rk d,Sh false 0 ns [a] ts rk d∧∀ t∈ts,Tok t:=by
 obtain ⟨a,ha⟩:=tree_fs ns 0 [] [] .nil h hm
 rw [List.nil_append] at ha
 obtain ⟨j,done,ms,ts,rk,d,h1,h2,h3,h4,h5⟩:=FS.last (st:=[]) ha
 obtain ⟨rfl,rfl⟩:=h1.nil_is rfl
 rw [List.nil_append] at h2
 subst h2
 exact ⟨a,ts,rk,d,h4,h5⟩
theorem tree_ne {ns:List Nd} (h:treeB ns=true) (hm:∀ n∈ns,n.num≤9223372036854775807):printL ns≠[]:=by
 obtain ⟨a,ts,rk,d,h1,h2⟩:=tree_sh h hm
 rw [sh_print h1 h]
 obtain ⟨_,⟨t,l,rfl,_⟩,_⟩:=(sh_sq h1).1 rfl
 obtain ⟨x,k,e,_⟩:=tok_head (h2 t (by simp))
 rw [txL_cons,e];simp
theorem textL_ne {sh:List Int} {c r:Int} {ac ar:Bool} (h:mayL sh c r=true):textL sh c r ac ar≠[]:=by
 unfold textL
 rw [if_pos h]
 intro e
 exact digL_ne _ (List.append_eq_nil_iff.1 e).2
theorem inL_ne {b:Bool} {t:List Int} (h:t≠[]):inL b t≠[]:=by
 unfold inL;split
 · simp
 · exact h
theorem sb_ne {t:ByteArray} (h:t≠⟨#[]⟩):sb t≠[]:=by
 intro e
 apply h
 have h1:=length_sb t
 rw [e] at h1
 have h1:t.size=0:=h1.symm
 cases t with
 | mk d =>
   have:d=#[]:=Array.eq_empty_of_size_eq_zero h1
   rw [this]
theorem opL_ne:∀ o:Nat,o<11→opL o≠[]:=by decide
theorem leaf_ref {n:Nd} (h:leafB n=true) (hk:n.kind=5):mayRf n.ref=true:=by
 unfold leafB at h
 split at h
 · cases h
 · simpa [hk] using h
theorem shN_ne {l:List Nd} (h:treeB l=true) {i:Int} (h0:0≤i) (h1:i<l.length):shN l i≠[]:=by
 obtain ⟨hnb, -⟩:=tree_at h h0 h1
 obtain ⟨-, -, -,b1,b2,hl⟩:=arms_kids hnb
 rw [shN_eq h h0 h1 _ rfl]
 split
 · exact digL_ne _
 split
 · simp
 split
 · split <;> simp
 split
 · simp
 split
 · exact textL_ne (leaf_ref hl ‹_›)
 split
 · simp
 split
 · simp
 split
 · simp
 · have:=opL_ne (((nodeAt l i).kind - 9).toNat) (by omega)
   simp [this]
theorem ptL_ne {l:List Nd} (h:treeB l=true) (p:Pt) (hp:PtOk l p):ptL l p≠[]:=by
 unfold ptL
 by_cases ht:p.t=⟨#[]⟩
 · obtain ⟨h0,h1⟩:=hp ht
   rw [if_pos ht];exact inL_ne (shN_ne h h0 h1)
 · rw [if_neg ht];exact sb_ne ht
theorem flat_len {l:List Nd} (h:treeB l=true):∀ ps:List Pt,(∀ p∈ps,PtOk l p)→ps.length≤(ps.flatMap (ptL l)).length
 | [],_=>Nat.le_refl _
 | p :: ps,hp=>by
   have ih:=flat_len h ps fun q hq=>hp q (List.mem_cons_of_mem _ hq)
   have h1:=List.length_pos_iff.2 (ptL_ne h p (hp p (by simp)))
   rw [List.flatMap_cons,List.length_append,List.length_cons];omega
theorem digL_len:∀ (k u:Nat),u<10 ^ (k+1)→(digL u).length≤k+1
 | 0,u,h=>by rw [digL_small u (by simpa using h)];simp
 | k + 1,u,h=>by
   by_cases h1:u<10
   · rw [digL_small u h1];simp
   · rw [digL_more u h1,List.length_append,List.length_singleton]
     have:=digL_len k (u / 10) (by rw [Nat.pow_succ] at h;omega)
     omega
theorem colL_len (n:Int):(colL n).length≤2:=by
 unfold colL
 split
 · simp
 · split <;> simp
theorem textL_len (sh:List Int) (c r:Int) (ac ar:Bool):(textL sh c r ac ar).length≤sh.length+8:=by
 unfold textL
 split
 · rename_i h
   unfold mayL at h
   rw [Bool.and_eq_true,decide_eq_true_iff] at h
   have h1:=digL_len 2 (r+1).toNat (by omega)
   have h2:=colL_len c
   have h3:(if sh=[] then ([]:List Int) else sh++[33]).length≤sh.length+1:=by split <;> simp
   have h4:∀ b:Bool,(if b=true then [(36:Int)] else []).length≤1:=by intro b;split <;> simp
   have h5:=h4 ac
   have h6:=h4 ar
   simp only [List.length_append]
   omega
 · simp
theorem dblL_len:∀ l:List Int,(dblL l).length≤2*l.length
 | []=>Nat.le_refl _
 | x :: l=>by
   have:=dblL_len l
   show ((if x=34 then [34,34] else [x])++dblL l).length≤_
   rw [List.length_append,List.length_cons]
   have:(if x=34 then [34,34] else [x]:List Int).length≤2:=by split <;> simp
   omega
theorem tail_len {s:ByteArray} {ts:List Tk} (h:signIs s ts=true):ts.tail.length+1=ts.length:=by
 cases ts with
 | nil=>unfold signIs at h;cases h
 | cons t l=>rfl
theorem opK_tail {n:Nat} {ts:List Tk} (h:opK n ts≠0):ts.tail.length+1=ts.length:=by
 obtain ⟨p,_,h1,_⟩:=opK_pos h;exact tail_len h1
theorem count_all : ∀ f:Nat,(∀ n deep base ts ns a r,exprP f n deep base ts=some (.ok (ns,a,r))→ns.length+r.length≤ts.length) ∧
 (∀ n deep base ns a ts ns' a' r,rowP f n deep base ns a ts=some (.ok (ns',a',r))→ns'.length+r.length≤ns.length+ts.length) ∧
 (∀ deep base ts ns a r,primP f deep base ts=some (.ok (ns,a,r))→ns.length+r.length≤ts.length) ∧
 (∀ deep base ns ks ts ns' ks' r,argsP f deep base ns ks ts=some (.ok (ns',ks',r))→ns'.length+r.length≤ns.length+ts.length)
 | 0=>by
   refine ⟨?_, ?_, ?_, ?_⟩
   · intro n deep base ts ns a r h;unfold exprP at h;cases h
   · intro n deep base ns a ts ns' a' r h;unfold rowP at h;cases h
   · intro deep base ts ns a r h;unfold primP at h;cases h
   · intro deep base ns ks ts ns' ks' r h;unfold argsP at h;cases h
 | f + 1 => by
   obtain ⟨i1,i2,i3,i4⟩:=count_all f
   refine ⟨?_, ?_, ?_, ?_⟩
   · intro n deep base ts ns a r h
     rw [exprP_succ] at h
     by_cases hn:n≤3
     · rw [if_pos hn] at h
       rcases bindR_some h with ⟨e,_,h2⟩ | ⟨ms,b,s,h1,h2⟩
       · cases h2
       · have:=i1 _ _ _ _ _ _ _ h1
         have:=i2 _ _ _ _ _ _ _ _ _ h2
         omega
     · rw [if_neg hn] at h
       by_cases c:signIs ⟨#[45]⟩ ts=true
       · rw [if_pos c] at h
         have htl:=tail_len c
         by_cases d:12≤deep
         · rw [if_pos d] at h;injection h with h;cases h
         · rw [if_neg d] at h
           rcases bindR_some h with ⟨e,_,h2⟩ | ⟨ms,b,s,h1,h2⟩
           · cases h2
           · have:=i1 _ _ _ _ _ _ _ h1
             injection h2 with h2;injection h2 with h2;injection h2 with h3 h4;injection h4 with h4 h5
             subst h3;subst h5
             rw [List.length_append,List.length_singleton];omega
       · rw [if_neg c] at h;exact i3 _ _ _ _ _ _ h
   · intro n deep base ns a ts ns' a' r h
     rw [rowP_succ] at h
     by_cases c:opK n ts=0
     · rw [if_pos c] at h
       injection h with h;injection h with h;injection h with h3 h4;injection h4 with h4 h5
       subst h3;subst h5;exact Nat.le_refl _
     · rw [if_neg c] at h
       have htl:=opK_tail c
       rcases bindR_some h with ⟨e,_,h2⟩ | ⟨ms,b,s,h1,h2⟩
       · cases h2
       · have:=i1 _ _ _ _ _ _ _ h1
         have:=i2 _ _ _ _ _ _ _ _ _ h2
         rw [List.length_append,List.length_append,List.length_singleton] at this
         omega
   · intro deep base ts ns a r h
     cases ts with
     | nil=>rw [primP_nil] at h;injection h with h;cases h
     | cons t ts =>
       rw [primP_cons] at h
       by_cases c:signIs ⟨#[40]⟩ (t :: ts)=true
       · rw [if_pos c] at h
         by_cases d:12≤deep
         · rw [if_pos d] at h;injection h with h;cases h
         · rw [if_neg d] at h
           rcases bindR_some h with ⟨e,_,h2⟩ | ⟨ms,b,s,h1,h2⟩
           · cases h2
           · have:=i1 _ _ _ _ _ _ _ h1
             by_cases g:signIs ⟨#[41]⟩ s=true
             · rw [if_pos g] at h2
               injection h2 with h2;injection h2 with h2;injection h2 with h3 h4;injection h4 with h4 h5
               subst h3;subst h5
               have:=tail_len g
               rw [List.length_cons];omega
             · rw [if_neg g] at h2;injection h2 with h2;cases h2
       · rw [if_neg c] at h
         by_cases k1:t.kind=1
         · rw [if_pos k1] at h;injection h with h;injection h with h;injection h with h3 h4;injection h4 with h4 h5;subst h3;subst h5;simp only [List.length_cons,List.length_nil];omega
         rw [if_neg k1] at h
         by_cases k2:t.kind=2
         · rw [if_pos k2] at h;injection h with h;injection h with h;injection h with h3 h4;injection h4 with h4 h5;subst h3;subst h5;simp only [List.length_cons,List.length_nil];omega
         rw [if_neg k2] at h
         by_cases k6:t.kind=6
         · rw [if_pos k6] at h;injection h with h;injection h with h;injection h with h3 h4;injection h4 with h4 h5;subst h3;subst h5;simp only [List.length_cons,List.length_nil];omega
         rw [if_neg k6] at h
         by_cases k4:t.kind=4
         · rw [if_pos k4] at h;injection h with h
           obtain ⟨s1,s2,_⟩:=refP_ok h
           have:=s1.len
           rw [List.length_cons,s2];omega
         rw [if_neg k4] at h
         by_cases k3:t.kind=3
         · rw [if_pos k3] at h
           by_cases w1:t.text=⟨#[84,82,85,69]⟩
           · rw [if_pos w1] at h;injection h with h;injection h with h;injection h with h3 h4;injection h4 with h4 h5;subst h3;subst h5;simp only [List.length_cons,List.length_nil];omega
           rw [if_neg w1] at h
           by_cases w2:t.text=⟨#[70,65,76,83,69]⟩
           · rw [if_pos w2] at h;injection h with h;injection h with h;injection h with h3 h4;injection h4 with h4 h5;subst h3;subst h5;simp only [List.length_cons,List.length_nil];omega
           rw [if_neg w2] at h
           by_cases w3:signIs ⟨#[40]⟩ ts=true
           · rw [if_pos w3] at h
             have htl:=tail_len w3
             by_cases d:12≤deep
             · rw [if_pos d] at h;injection h with h;cases h
             rw [if_neg d] at h
             rcases bindR_some h with ⟨e,_,h2⟩ | ⟨ms,ks,s,h1,h2⟩
             · cases h2
             · have hms:ms.length+s.length≤ts.tail.length:=by
                by_cases g:signIs ⟨#[41]⟩ ts.tail=true
                · rw [if_pos g] at h1
                  injection h1 with h1;injection h1 with h1;injection h1 with h3 h4;injection h4 with h4 h5
                  subst h3;subst h5;simp
                · rw [if_neg g] at h1
                  have:=i4 _ _ _ _ _ _ _ _ h1
                  simpa using this
               by_cases g:signIs ⟨#[41]⟩ s=true
               · rw [if_pos g] at h2
                 injection h2 with h2;injection h2 with h2;injection h2 with h3 h4;injection h4 with h4 h5
                 subst h3;subst h5
                 have:=tail_len g
                 rw [List.length_append,List.length_singleton,List.length_cons];omega
               · rw [if_neg g] at h2;injection h2 with h2;cases h2
           · rw [if_neg w3] at h;injection h with h;cases h
         · rw [if_neg k3] at h;injection h with h;cases h
   · intro deep base ns ks ts ns' ks' r h
     rw [argsP_succ] at h
     rcases bindR_some h with ⟨e,_,h2⟩ | ⟨ms,b,s,h1,h2⟩
     · cases h2
     · have h3:=i1 _ _ _ _ _ _ _ h1
       by_cases d:signIs ⟨#[44]⟩ s=true
       · rw [if_pos d] at h2
         have:=tail_len d
         have:=i4 _ _ _ _ _ _ _ _ h2
         rw [List.length_append] at this;omega
       · rw [if_neg d] at h2
         injection h2 with h2;injection h2 with h2;injection h2 with h3 h4;injection h4 with h4 h5
         subst h3;subst h5;rw [List.length_append];omega
theorem res_dead:Tryz.f171.results=#[.cell 2 101,.tmp 3]:=by kernel_rfl
theorem res_word:Tryz.f173.results=#[.cell 2 101,.tmp 3]:=by kernel_rfl
theorem grownBy.below_new {w w':World} {b:Nat} (h:Below w.heap.size w w'):w.grownBy w' (some b):=grownBy.below' (grownBy.refl' _ _) h
theorem new_tok (w:World) (b:Nat):w.grownBy (w.alloc (.cells zTok 101)) (some b):=grownBy.below_new ((Below.refl _ _).alloc (Nat.le_refl _) _)
theorem LxAt.tok {w:World} {b:Nat} {s:ByteArray} {k:Nat} (h:LxAt w b s k):LxAt (w.alloc (.cells zTok 101)) b s k:=h.below ((Below.refl _ _).alloc (Nat.le_refl _) _) h.lt
theorem sb_dead:sb ⟨#[35,82,69,70,33]⟩=[35,82,69,70,33]:=by decide
set_option maxRecDepth 100000 in
set_option maxHeartbeats 800000 in
theorem dead_any (b:Nat) (s:ByteArray) (k:Nat) (w:World) (h:LxAt w b s k) (_hs:s.size≤1000000) (_hk:k<s.size) :
 Calls Tryz.prog 171 #[.pointer (some ⟨b,0,none⟩)] w (TokOut (deadT (restL s k)) b s k w):=by
 have hlt:=h.lt
 have hw0:w.heap.size≠b:=by omega
 have hT:=take_any b s ⟨#[35,82,69,70,33]⟩ k _ h.tok _hs (by omega) (by decide)
 rw [sb_dead] at hT
 have HAL:=Lib.hid (new_tok w b)
 have HTK:=Lib.hid (TkAt.zero w)
 have hN:deadT (restL s k)=if headL [35,82,69,70,33] (restL s k)=true then some ({ Tk.zero with kind:=6 },5) else none:=by
  unfold deadT headL;simp
 cases hq:headL [35,82,69,70,33] (restL s k)
 · rw [hq] at hN hT
   have HN:=Lib.hid hN;clear hN
   have HT:=Lib.hid hT;clear hT h
   go_enter Tryz.func171,Tryz.ntmps171
   go_wp2_with (first
    | (go_at_call 196;((with_reducible refine HT.out.mono ?_);rintro e w1 ⟨h1,rfl,h2⟩;have H1:=Lib.hid h1;have H2:=Lib.hid h2;clear h1 h2;have HT2:=Lib.hid (HTK.out.grown H1.out hw0);obtain ⟨x0,x1,x2,x3,x4,x5,x6,x7,x8⟩:=HT2.out.cells;obtain ⟨f0,f1,f2,f3,f4,f5,f6,f7,f8⟩:=HT2.out.melts)))
   exact bodyPost_ret (out_tok (HT2.out.put9 { Tk.zero with kind:=6 }) _ _ false 2 3 res_dead rfl rfl) rfl ⟨grownBy.set9 (grownBy.trans' HAL.out H1.out) (Nat.le_refl _) _ _ _ _ _ _ _ _ _,.inr ⟨HN.out,{ Tk.zero with kind:=6 },rfl⟩⟩
 · rw [hq] at hN hT
   have HN:=Lib.hid hN;clear hN
   have HT:=Lib.hid hT;clear hT h
   go_enter Tryz.func171,Tryz.ntmps171
   go_wp2_with (first
    | (go_at_call 196;((with_reducible refine HT.out.mono ?_);rintro e w1 ⟨h1,rfl,h2⟩;have H1:=Lib.hid h1;have H2:=Lib.hid h2;clear h1 h2;have HT2:=Lib.hid (HTK.out.grown H1.out hw0);obtain ⟨x0,x1,x2,x3,x4,x5,x6,x7,x8⟩:=HT2.out.cells;obtain ⟨f0,f1,f2,f3,f4,f5,f6,f7,f8⟩:=HT2.out.melts)))
   exact bodyPost_ret (out_tok (HT2.out.put9 { Tk.zero with kind:=6 }) _ _ true 2 3 res_dead rfl rfl) rfl ⟨grownBy.set9 (grownBy.trans' HAL.out H1.out) (Nat.le_refl _) _ _ _ _ _ _ _ _ _,.inl ⟨_,_,HN.out,rfl,H2.out.set9 hw0 _ _ _ _ _ _ _ _ _⟩⟩
theorem says_some {s:ByteArray} {d:Rd} (h:readS s=some d) {e:Ending} (he:Says (sb s) e):e = .returned (.tuple #[.agg #[.string d.sh,.int .i64 d.c,.int .i64 d.r,.bool d.ac,.bool d.ar],.bool true]):=by
 obtain ⟨_,h2,h3⟩:=read_some s d h
 refine Says.text h2 ?_
 rw [h3,str_sb];exact he
theorem says_none {s:ByteArray} (h:readS s=none) {e:Ending} (he:Says (sb s) e):e = .returned (.tuple #[.agg #[.string ⟨#[]⟩,.int .i64 0,.int .i64 0,.bool false,.bool false],.bool false]):=by
 rcases he with ⟨_,_,_,_,_,_,h2,h3,_⟩ | ⟨_,rfl⟩
 · exact absurd h3 (read_none s h _ _ _ _ _ h2)
 · rfl
theorem nm_called {l:List Int} {x:Int} (h0:l.head? = some x) (hx:isBeg x=true):nmL l=calledL l:=by
 cases l with
 | nil=>simp at h0
 | cons y m =>
   simp at h0;subst h0
   unfold nmL calledL
   rw [Bool.eq_iff_iff]
   simp only [Bool.and_eq_true,decide_eq_true_iff,List.getD_cons_zero]
   constructor
   · rintro ⟨h1,h2⟩
     refine ⟨h1,⟨by simp,h2⟩, ?_⟩
     have:=h1 y (by simp)
     rw [Bool.or_eq_true] at this
     rcases this with h | h
     · exact h
     · exfalso
       unfold isBeg isLet at hx;unfold isNum at h
       simp only [Bool.or_eq_true,decide_eq_true_iff] at hx h;omega
   · rintro ⟨h1,⟨_,h2⟩,_⟩
     exact ⟨h1,h2⟩
theorem word_val (l ds:List Int) (h:l.takeWhile isWord=ds):wordT l=match readS (strOfNums ds) with
 | some d=>some ({ Tk.zero with kind:=4,sh:=d.sh,c:=d.c,r:=d.r,ac:=d.ac,ar:=d.ar },ds.length)
 | none=>if calledL ds=true then some ({ Tk.zero with kind:=3,text:=strOfNums ds },ds.length) else none:=by subst h;rfl
set_option maxRecDepth 100000 in
set_option maxHeartbeats 1600000 in
theorem word_any (b:Nat) (s:ByteArray) (k:Nat) (w:World) (h:LxAt w b s k) (_hs:s.size≤1000000) (_hk:k<s.size) (hd:isBeg ((s[k].toNat:Nat):Int)=true) :
 Calls Tryz.prog 173 #[.pointer (some ⟨b,0,none⟩)] w (TokOut (wordT (restL s k)) b s k w):=by
 have hlt:=h.lt
 have hw0:w.heap.size≠b:=by omega
 obtain ⟨ds,hds⟩:∃ ds,(restL s k).takeWhile isWord=ds:=⟨_,rfl⟩
 obtain ⟨D,hD⟩:∃ D,strOfNums ds=D:=⟨_,rfl⟩
 have hbd:Bytes ds:=fun x hx=>restL_bd s k x (by rw [← hds] at hx;exact (List.takeWhile_prefix _).subset hx)
 have hsD:sb D=ds:=by rw [← hD];exact sb_str ds hbd
 have hszD:D.size=ds.length:=by rw [← length_sb,hsD]
 have hlen:ds.length≤s.size:=by rw [← hds];have h0:=take_le isWord (restL s k);rw [length_restL] at h0;omega
 have hW:=(whileWord_any b s k _ h.tok _hs (by omega)).mono (R':=fun e w'=>(w.alloc (.cells zTok 101)).grownBy w' (some b)∧e = .returned (.string D)∧LxAt w' b s (k+ds.length)) (fun e w' ⟨x1,x2,x3⟩=>⟨x1,by rw [x2,hds,hD],by rw [hds] at x3;exact x3⟩)
 have HW:=Lib.hid hW;clear hW h
 have HAL:=Lib.hid (new_tok w b)
 have HTK:=Lib.hid (TkAt.zero w)
 have hN:=word_val (restL s k) ds hds
 rw [hD] at hN
 have hhd:ds.head? = some ((s[k].toNat:Nat):Int):=by
  have h0:=restL_at s k 0 (by omega)
  rw [← hds]
  cases hr:restL s k with
  | nil=>rw [hr] at h0;simp at h0
  | cons x l =>
    rw [hr] at h0;simp at h0
    have hwd:isWord x=true:=by rw [isWord_beg,h0,hd];rfl
    rw [List.takeWhile_cons,hwd];simp [h0]
 rw [← nm_called hhd hd] at hN
 have hmx:D.size≤1000000:=by omega
 clear hhd hd hbd hds hlen hD
 cases hq:readS D with
 | some d =>
   rw [hq] at hN
   have HN:=Lib.hid hN;clear hN
   have hsz:d.sh.size≤12:=(read_some D d hq).1
   have HSY:=Lib.hid (fun (e:Ending) (he:Says (sb D) e)=>says_some hq he);clear hq hsD
   go_enter Tryz.func173,Tryz.ntmps173
   go_upto_region 4 with (first
    | (go_at_call 129;((with_reducible refine HW.out.mono ?_);rintro e w1 ⟨h1,rfl,h2⟩;have H1:=Lib.hid h1;have H2:=Lib.hid h2;clear h1 h2))
    | (go_at_call 199;((with_reducible refine (read_any D _ ?_).mono ?_);(first | omega | skip);rintro e w2 ⟨h1,h2⟩;obtain rfl:=HSY.out e h1;clear h1;have H3:=Lib.hid h2;clear h2;have HL2:=Lib.hid (H2.out.below H3.out H2.out.lt);have HT2:=Lib.hid ((HTK.out.grown H1.out hw0).below H3.out (HTK.out.grown H1.out hw0).lt);have hlt2:=HT2.out.lt;have hne2:w.heap.size≠w2.heap.size:=Nat.ne_of_lt hlt2;obtain ⟨x0,x1,x2,x3,x4,x5,x6,x7,x8⟩:=HT2.out.cells;obtain ⟨f0,f1,f2,f3,f4,f5,f6,f7,f8⟩:=HT2.out.melts)))
   have hR3:=RefAt.new w2 d.sh d.c d.r d.ac d.ar
   have hB3:Below w2.heap.size w2 (w2.alloc (.cells #[.string d.sh,.int .i64 d.c,.int .i64 d.r,.bool d.ac,.bool d.ar] 99)):=(Below.refl _ _).alloc (Nat.le_refl _) _
   have HL3:=Lib.hid (HL2.out.below hB3 HL2.out.lt)
   have HT3:=Lib.hid (HT2.out.below hB3 HT2.out.lt)
   have HG3:=Lib.hid (grownBy.below' (grownBy.below' (grownBy.trans' HAL.out H1.out) H3.out) hB3)
   clear x0 x1 x2 x3 x4 x5 x6 x7 x8 f0 f1 f2 f3 f4 f5 f6 f7 f8 hB3
   generalize w2.alloc (.cells #[.string d.sh,.int .i64 d.c,.int .i64 d.r,.bool d.ac,.bool d.ar] 99)=w3 at hR3 HL3 HT3 HG3 ⊢
   obtain ⟨x0,x1,x2,x3,x4,x5,x6,x7,x8⟩:=HT3.out.cells
   obtain ⟨f0,f1,f2,f3,f4,f5,f6,f7,f8⟩:=HT3.out.melts
   obtain ⟨y0,y1,y2,y3,y4⟩:=hR3.facts
   clear hR3
   go_wp2_with fail
   exact bodyPost_ret (out_tok (HT3.out.put9 { Tk.zero with kind:=4,sh:=d.sh,c:=d.c,r:=d.r,ac:=d.ac,ar:=d.ar }) _ _ true 2 3 res_word rfl rfl) rfl ⟨grownBy.set9 HG3.out (Nat.le_refl _) _ _ _ _ _ _ _ _ _,.inl ⟨_,_,HN.out,rfl,HL3.out.set9 hw0 _ _ _ _ _ _ _ _ _⟩⟩
 | none =>
   rw [hq] at hN
   have HSY:=Lib.hid (fun (e:Ending) (he:Says (sb D) e)=>says_none hq he);clear hq
   cases hnm:nmL ds
   all_goals
    rw [hnm] at hN
    have HN:=Lib.hid hN;clear hN
    have HNM:=Lib.hid (show nmL (sb D)=_ by rw [hsD,hnm])
    clear hnm hsD
    go_enter Tryz.func173,Tryz.ntmps173
    go_upto_region 5 with (first
     | (go_at_call 129;((with_reducible refine HW.out.mono ?_);rintro e w1 ⟨h1,rfl,h2⟩;have H1:=Lib.hid h1;have H2:=Lib.hid h2;clear h1 h2))
     | (go_at_call 199;((with_reducible refine (read_any D _ ?_).mono ?_);(first | omega | skip);rintro e w2 ⟨h1,h2⟩;obtain rfl:=HSY.out e h1;clear h1;have H3:=Lib.hid h2;clear h2;have HL2:=Lib.hid (H2.out.below H3.out H2.out.lt);have HT2:=Lib.hid ((HTK.out.grown H1.out hw0).below H3.out (HTK.out.grown H1.out hw0).lt))))
    have hB3:Below w2.heap.size w2 (w2.alloc (.cells #[.string ⟨#[]⟩,.int .i64 0,.int .i64 0,.bool false,.bool false] 99)):=(Below.refl _ _).alloc (Nat.le_refl _) _
    have HL3:=Lib.hid (HL2.out.below hB3 HL2.out.lt)
    have HT3:=Lib.hid (HT2.out.below hB3 HT2.out.lt)
    have HG3:=Lib.hid (grownBy.below' (grownBy.below' (grownBy.trans' HAL.out H1.out) H3.out) hB3)
    clear hB3
    generalize w2.alloc (.cells #[.string ⟨#[]⟩,.int .i64 0,.int .i64 0,.bool false,.bool false] 99)=w3 at HL3 HT3 HG3 ⊢
    obtain ⟨x0,x1,x2,x3,x4,x5,x6,x7,x8⟩:=HT3.out.cells
    obtain ⟨f0,f1,f2,f3,f4,f5,f6,f7,f8⟩:=HT3.out.melts
    go_wp2_with (go_at_call 200;((with_reducible refine (isName_any D _ ?_).mono ?_);(first | omega | skip);rintro e w4 ⟨rfl,rfl⟩;rw [HNM.out]))
   · exact bodyPost_ret (out_tok (HT3.out.put9 { Tk.zero with kind:=3,text:=D }) _ _ false 2 3 res_word rfl rfl) rfl ⟨grownBy.set9 HG3.out (Nat.le_refl _) _ _ _ _ _ _ _ _ _,.inr ⟨HN.out,{ Tk.zero with kind:=3,text:=D },rfl⟩⟩
   · exact bodyPost_ret (out_tok (HT3.out.put9 { Tk.zero with kind:=3,text:=D }) _ _ true 2 3 res_word rfl rfl) rfl ⟨grownBy.set9 HG3.out (Nat.le_refl _) _ _ _ _ _ _ _ _ _,.inl ⟨_,_,HN.out,rfl,HL3.out.set9 hw0 _ _ _ _ _ _ _ _ _⟩⟩
theorem run_index_arr {P:Program} {w:World} (t e:TypeId) (n:Nat) (cs:Array Value) (k:Nat) (v:Value) (d:TypeDesc) (h:P.underlying t=some (.array n e)) (he:P.underlying e=some d) (hd:(match d with | .struct _ | .array _ _=>true | _=>false)=false)
 (hsz:(P.info? e).map (·.size)=some 1) (hk:k<n) (hv:cs[k]? = some v):(Instr.index t (.agg cs) (.int .i64 (k:Int))).run P w = .ok v w:=by
 have h1:(0:Int)≤(k:Int)∧(k:Int)<(n:Int):=by omega
 cases hq:P.info? e with
 | none=>simp [hq] at hsz
 | some i =>
   have hs':i.size=1:=by simp [hq] at hsz;exact hsz
   simp [Instr.index,run_underlying h,asIntOf,h1,sizeOf,typeInfo,hq,hs',part,isAgg,run_underlying he,hv,go_sem]
   cases d <;> simp_all
theorem wpList_index_arr {P:Program} {ops:Array Oper} {rest:List Oper} {op:Oper} {a:Act} {w:World} {Q:Exit→Act→World→Prop} (hgd:op.guard=none) (t e:TypeId) (n:Nat) (x y:Operand) (ho:op.op = .index t x y)
 (cs:Array Value) (k:Nat) (v:Value) (d:TypeDesc) (h:P.underlying t=some (.array n e)) (he:P.underlying e=some d) (hd:(match d with | .struct _ | .array _ _=>true | _=>false)=false)
 (hsz:(P.info? e).map (·.size)=some 1) (hx:a.eval x = .agg cs) (hy:a.eval y = .int .i64 (k:Int)) (hk:k<n) (hv:cs[k]? = some v)
 (hh:wpList P ops Q rest (a.put op.dst v) w):wpList P ops Q (op :: rest) a w :=
 wpList_plain hgd fun _ hK=>by
  unfold Oper.wp execOp
  simp only [ho,hx,hy,Sem.run_bind,Sem.run_pure,Result.andThen_ok,run_index_arr t e n cs k v d h he hd hsz hk hv]
  exact hK _ _ hh
def sigL:List (List Int):=[[60,62],[60,61],[62,61],[43],[45],[42],[47],[38],[61],[60],[62],[40],[41],[44],[58]]
def sigB:List ByteArray:=[⟨#[60,62]⟩,⟨#[60,61]⟩,⟨#[62,61]⟩,⟨#[43]⟩,⟨#[45]⟩,⟨#[42]⟩,⟨#[47]⟩,⟨#[38]⟩,⟨#[61]⟩,⟨#[60]⟩,⟨#[62]⟩,⟨#[40]⟩,⟨#[41]⟩,⟨#[44]⟩,⟨#[58]⟩]
def sigA:Array Value:=(sigB.map Value.string).toArray
theorem sig_at:∀ j:Nat,j<15→∃ t,sigB[j]? = some t∧sigA[j]? = some (.string t)∧sb t=sigL.getD j []∧t.size≤2∧t=strOfNums (sigL.getD j [])
 | 0,_=>⟨_,rfl,rfl,by decide,by decide,by decide +kernel⟩
 | 1,_=>⟨_,rfl,rfl,by decide,by decide,by decide +kernel⟩
 | 2,_=>⟨_,rfl,rfl,by decide,by decide,by decide +kernel⟩
 | 3,_=>⟨_,rfl,rfl,by decide,by decide,by decide +kernel⟩
 | 4,_=>⟨_,rfl,rfl,by decide,by decide,by decide +kernel⟩
 | 5,_=>⟨_,rfl,rfl,by decide,by decide,by decide +kernel⟩
 | 6,_=>⟨_,rfl,rfl,by decide,by decide,by decide +kernel⟩
 | 7,_=>⟨_,rfl,rfl,by decide,by decide,by decide +kernel⟩
 | 8,_=>⟨_,rfl,rfl,by decide,by decide,by decide +kernel⟩
 | 9,_=>⟨_,rfl,rfl,by decide,by decide,by decide +kernel⟩
 | 10,_=>⟨_,rfl,rfl,by decide,by decide,by decide +kernel⟩
 | 11,_=>⟨_,rfl,rfl,by decide,by decide,by decide +kernel⟩
 | 12,_=>⟨_,rfl,rfl,by decide,by decide,by decide +kernel⟩
 | 13,_=>⟨_,rfl,rfl,by decide,by decide,by decide +kernel⟩
 | 14,_=>⟨_,rfl,rfl,by decide,by decide,by decide +kernel⟩
 | j+15,h=>by omega
theorem head_two (a b:Int) (l:List Int):headL [a,b] l=true↔l.head? = some a∧l.tail.head? = some b:=by
 unfold headL;rw [decide_eq_true_iff]
 match l with
 | []=>simp
 | [x]=>simp
 | x :: y :: m=>simp
theorem head_one (a:Int) (l:List Int):headL [a] l=true↔l.head? = some a:=by
 unfold headL;rw [decide_eq_true_iff]
 match l with
 | []=>simp
 | x :: m=>simp
theorem sig_some:∀ j:Nat,j<15→∀ l:List Int,(∀ q,q<j→headL (sigL.getD q []) l=false)→headL (sigL.getD j []) l=true→signT l=some ({ Tk.zero with kind:=5,text:=strOfNums (sigL.getD j []) },(sigL.getD j []).length):=by
 intro j hj l hno hyes
 have hlen:signN l=(sigL.getD j []).length:=by
  have hn0:∀ a b q,q<j→sigL.getD q []=[a,b]→¬ (l.head? = some a∧l.tail.head? = some b):=by
   intro a b q hq he h
   have:=hno q hq
   rw [he,(head_two a b l).2 h] at this;cases this
  cases l with
  | nil =>
    exfalso
    have:∀ j,j<15→sigL.getD j []≠[]:=by decide
    unfold headL at hyes
    rw [decide_eq_true_iff,List.take_nil] at hyes
    exact this j hj hyes.symm
  | cons x m =>
    rw [signN_cons]
    simp only [List.head?_cons,List.tail_cons,Option.some.injEq] at hn0
    match j,hj with
    | 0,_=>obtain ⟨h1,h2⟩:=(head_two _ _ _).1 hyes;simp at h1 h2;rw [if_pos (by left;exact ⟨h1,.inl h2⟩)];rfl
    | 1,_=>obtain ⟨h1,h2⟩:=(head_two _ _ _).1 hyes;simp at h1 h2;rw [if_pos (by left;exact ⟨h1,.inr h2⟩)];rfl
    | 2,_=>obtain ⟨h1,h2⟩:=(head_two _ _ _).1 hyes;simp at h1 h2;rw [if_pos (by right;exact ⟨h1,h2⟩)];rfl
    | j + 3,hj =>
      have g0:=hn0 60 62 0 (by omega) rfl
      have g1:=hn0 60 61 1 (by omega) rfl
      have g2:=hn0 62 61 2 (by omega) rfl
      rw [if_neg (by
       rintro (⟨h1,h2 | h2⟩ | ⟨h1,h2⟩)
       · exact g0 ⟨h1,h2⟩
       · exact g1 ⟨h1,h2⟩
       · exact g2 ⟨h1,h2⟩)]
      have hx:∃ a,sigL.getD (j+3) []=[a]∧(a=43∨a=45∨a=42∨a=47∨a=38∨a=61∨a=60∨a=62∨a=40∨a=41∨a=44∨a=58):=by
       have:∀ j,j<12→∃ a,sigL.getD (j+3) []=[a]∧(a=43∨a=45∨a=42∨a=47∨a=38∨a=61∨a=60∨a=62∨a=40∨a=41∨a=44∨a=58):=by
        intro j hj
        match j,hj with
        | 0,_=>exact ⟨43,rfl,by omega⟩
        | 1,_=>exact ⟨45,rfl,by omega⟩
        | 2,_=>exact ⟨42,rfl,by omega⟩
        | 3,_=>exact ⟨47,rfl,by omega⟩
        | 4,_=>exact ⟨38,rfl,by omega⟩
        | 5,_=>exact ⟨61,rfl,by omega⟩
        | 6,_=>exact ⟨60,rfl,by omega⟩
        | 7,_=>exact ⟨62,rfl,by omega⟩
        | 8,_=>exact ⟨40,rfl,by omega⟩
        | 9,_=>exact ⟨41,rfl,by omega⟩
        | 10,_=>exact ⟨44,rfl,by omega⟩
        | 11,_=>exact ⟨58,rfl,by omega⟩
        | j+12,h=>omega
       exact this j (by omega)
      obtain ⟨a,ha,hor⟩:=hx
      rw [ha] at hyes ⊢
      have h1:=(head_one _ _).1 hyes
      simp at h1;subst h1
      rw [if_pos hor];rfl
 have hpos:(sigL.getD j []).length≠0:=by
  have:∀ j,j<15→(sigL.getD j []).length≠0:=by decide
  exact this j hj
 unfold signT
 rw [hlen,if_neg hpos]
 unfold headL at hyes
 rw [decide_eq_true_iff] at hyes
 rw [hyes]
theorem sig_none (l:List Int) (hno:∀ q,q<15→headL (sigL.getD q []) l=false):signT l=none:=by
 have h2:∀ a b q,q<15→sigL.getD q []=[a,b]→¬ (l.head? = some a∧l.tail.head? = some b):=by
  intro a b q hq he h
  have:=hno q hq
  rw [he,(head_two a b l).2 h] at this;cases this
 have h1:∀ a q,q<15→sigL.getD q []=[a]→¬ l.head? = some a:=by
  intro a q hq he h
  have:=hno q hq
  rw [he,(head_one a l).2 h] at this;cases this
 have hz:signN l=0:=by
  cases l with
  | nil=>rfl
  | cons x m =>
    rw [signN_cons]
    simp only [List.head?_cons,List.tail_cons,Option.some.injEq] at h1 h2
    have g0:=h2 60 62 0 (by omega) rfl
    have g1:=h2 60 61 1 (by omega) rfl
    have g2:=h2 62 61 2 (by omega) rfl
    have k3:=h1 43 3 (by omega) rfl
    have k4:=h1 45 4 (by omega) rfl
    have k5:=h1 42 5 (by omega) rfl
    have k6:=h1 47 6 (by omega) rfl
    have k7:=h1 38 7 (by omega) rfl
    have k8:=h1 61 8 (by omega) rfl
    have k9:=h1 60 9 (by omega) rfl
    have k10:=h1 62 10 (by omega) rfl
    have k11:=h1 40 11 (by omega) rfl
    have k12:=h1 41 12 (by omega) rfl
    have k13:=h1 44 13 (by omega) rfl
    have k14:=h1 58 14 (by omega) rfl
    rw [if_neg (by
     rintro (⟨h1,h2 | h2⟩ | ⟨h1,h2⟩)
     · exact g0 ⟨h1,h2⟩
     · exact g1 ⟨h1,h2⟩
     · exact g2 ⟨h1,h2⟩),if_neg (by omega)]
 unfold signT;rw [if_pos hz]
def SigV (w:World):Prop:=∃ ty fr,w.heap[(4:Nat)]? = some (.cells sigA ty fr)
theorem SigV.lt {w:World} (h:SigV w):4<w.heap.size:=by obtain ⟨_,_,h⟩:=h;exact (Array.getElem?_eq_some_iff.1 h).1
theorem SigV.grown {w w':World} {b:Nat} (h:SigV w) (hg:w.grownBy w' (some b)) (hb:max 2 4<b):SigV w':=by
 have h0:=h.lt
 obtain ⟨ty,fr,h1⟩:=h
 exact ⟨ty,fr,by rw [hg.block _ h0 (by intro e;have:=Option.some.inj e;omega)];exact h1⟩
theorem SigV.below {w w':World} (h:SigV w) (hb:Below w.heap.size w w'):SigV w':=by
 have h0:=h.lt
 obtain ⟨ty,fr,h1⟩:=h
 exact ⟨ty,fr,by rw [hb.block _ h0];exact h1⟩
theorem ErrV.below {w w':World} (h:ErrV w) (hb:Below w.heap.size w w'):ErrV w':=h.grown (b:=w.heap.size+2+1) (grownBy.below_new hb) (by omega)
theorem res_sign:Tryz.f174.results=#[.cell 2 101,.tmp 3]:=by kernel_rfl
theorem sig_und:Tryz.prog.underlying 210=some (.array 15 9):=Tryz.underlying210
theorem sig_size:(Tryz.prog.info? 210).map (·.size)=some sigA.size:=by kernel_rfl
theorem str_size:(Tryz.prog.info? 9).map (·.size)=some 1:=by kernel_rfl
set_option maxRecDepth 100000 in
set_option maxHeartbeats 1600000 in
theorem sign_any (b:Nat) (s:ByteArray) (k:Nat) (w:World) (h:LxAt w b s k) (_hs:s.size≤1000000) (_hk:k<s.size) (hsv:SigV w) (hb2:max 2 4<b) :
 Calls Tryz.prog 174 #[.pointer (some ⟨b,0,none⟩)] w (TokOut (signT (restL s k)) b s k w):=by
 have hlt:=h.lt
 have hw0:w.heap.size≠b:=by omega
 obtain ⟨ty,fr,hrow⟩:=hsv.grown (new_tok w b) hb2
 clear hsv
 have HAL:=Lib.hid (new_tok w b)
 have HTK:=Lib.hid (TkAt.zero w)
 have HLX:=Lib.hid h.tok;clear h
 have HROW:=Lib.hid hrow;clear hrow
 go_enter Tryz.func174,Tryz.ntmps174
 go_upto_region 1 with (fail)
 refine wp_region_lit ?_
 refine wpList_load_row rfl 210 (.global 4) rfl 4 rfl ty sigA fr _ HROW.out sig_und rfl sig_size ?_
 go_wp2_with fail
 go_loopw [7] (fun i wr=>∃ j:Nat,j≤15∧i = .int .i64 j∧Hid (∀ q,q<j→headL (sigL.getD q []) (restL s k)=false)∧Hid (LxAt wr b s k)∧Hid ((w.alloc (.cells zTok 101)).grownBy wr (some b)))
  (fun i _=>15 - (intOf i).toNat)
 case atStart=>exact ⟨0,by omega,rfl,Lib.hid (by intro q hq;omega),HLX,Lib.hid (grownBy.refl' _ _)⟩
 case round =>
  obtain ⟨j,hj,rfl,HNO,HR,HG⟩:=hrel
  by_cases hlt:j<15
  · have hji:(j:Int)<15:=by omega
    obtain ⟨t,ht1,ht2,ht3,ht4,ht5⟩:=sig_at j hlt
    have hT:=take_any b s t k wr HR.out _hs (by omega) (by omega)
    rw [ht3] at hT
    have HT2:=Lib.hid ht2;have HT3:=Lib.hid ht3;have HT5:=Lib.hid ht5
    clear ht1 ht2 ht3 ht5
    cases hq:headL (sigL.getD j []) (restL s k)
    · rw [hq] at hT
      have HT:=Lib.hid hT;have HQ:=Lib.hid hq;clear hT hq
      go_upto_region 3 with (fail)
      refine wp_region_lit ?_
      refine wpList_index_arr rfl 210 9 15 (.tmp 6) (.tmp 7) rfl sigA j (.string t) _ sig_und Tryz.underlying9 rfl str_size rfl rfl hlt HT2.out ?_
      go_wp2_with (go_at_call 196;((with_reducible refine HT.out.mono ?_);rintro e w1 ⟨h1,rfl,h2⟩;have H1:=Lib.hid h1;have H2:=Lib.hid h2;clear h1 h2))
      go_roundw
      case rel =>
       refine ⟨j+1,by omega,by go_num,Lib.hid ?_,H2,Lib.hid (grownBy.trans' HG.out H1.out)⟩
       intro q hq
       by_cases hqj:q<j
       · exact HNO.out q hqj
       · rw [show q=j from by omega];exact HQ.out
      case measure=>simp [intOf];omega
    · rw [hq] at hT
      have HT:=Lib.hid hT;clear hT
      have hsz:t.size=(sigL.getD j []).length:=by rw [← HT3.out,length_sb]
      have hN:=sig_some j hlt (restL s k) HNO.out hq
      rw [← HT5.out, ← hsz] at hN
      have HN:=Lib.hid hN;clear hN hq hsz
      go_upto_region 3 with (fail)
      refine wp_region_lit ?_
      refine wpList_index_arr rfl 210 9 15 (.tmp 6) (.tmp 7) rfl sigA j (.string t) _ sig_und Tryz.underlying9 rfl str_size rfl rfl hlt HT2.out ?_
      go_wp2_with (go_at_call 196;((with_reducible refine HT.out.mono ?_);rintro e w1 ⟨h1,rfl,h2⟩;have H1:=Lib.hid (grownBy.trans' HG.out h1);have H2:=Lib.hid h2;clear h1 h2;have HT2:=Lib.hid (HTK.out.grown H1.out hw0);obtain ⟨x0,x1,x2,x3,x4,x5,x6,x7,x8⟩:=HT2.out.cells;obtain ⟨f0,f1,f2,f3,f4,f5,f6,f7,f8⟩:=HT2.out.melts))
      exact bodyPost_ret (out_tok (HT2.out.put9 { Tk.zero with kind:=5,text:=t }) _ _ true 2 3 res_sign rfl rfl) rfl ⟨grownBy.set9 (grownBy.trans' HAL.out H1.out) (Nat.le_refl _) _ _ _ _ _ _ _ _ _,.inl ⟨_,_,HN.out,rfl,H2.out.set9 hw0 _ _ _ _ _ _ _ _ _⟩⟩
  · have hji:¬ (j:Int)<15:=by omega
    have HN:=Lib.hid (sig_none (restL s k) (fun q hq=>HNO.out q (by omega)))
    have HT2:=Lib.hid (HTK.out.grown HG.out hw0)
    obtain ⟨x0,x1,x2,x3,x4,x5,x6,x7,x8⟩:=HT2.out.cells
    obtain ⟨f0,f1,f2,f3,f4,f5,f6,f7,f8⟩:=HT2.out.melts
    go_wp2_with fail
    exact bodyPost_ret (out_tok (HT2.out.put9 Tk.zero) _ _ false 2 3 res_sign rfl rfl) rfl ⟨grownBy.set9 (grownBy.trans' HAL.out HG.out) (Nat.le_refl _) _ _ _ _ _ _ _ _ _,.inr ⟨HN.out,Tk.zero,rfl⟩⟩
def QuoSt (s:ByteArray) (k p:Nat) (xs:List Int):Prop:=quoF (restL s (k+1))=(quoF (restL s p)).map fun q=>(xs++q.1,p - (k+1)+q.2)
theorem restL_cons (s:ByteArray) (p:Nat) (h:p<s.size):restL s p=((s[p].toNat:Nat):Int) :: restL s (p+1):=by
 unfold restL
 rw [List.drop_eq_getElem_cons (by rw [length_sb];exact h)]
 congr 1
 have:=sb_at s p h
 rw [List.getElem?_eq_getElem (by rw [length_sb];exact h)] at this
 exact Option.some.inj this
theorem restL_nil (s:ByteArray) (p:Nat) (h:s.size≤p):restL s p=[]:=by
 apply List.eq_nil_of_length_eq_zero;rw [length_restL];omega
theorem quo_end {s:ByteArray} {k p:Nat} {xs:List Int} (h:QuoSt s k p xs) (hp:s.size≤p):quoT (restL s (k+1))=none:=by
 unfold QuoSt at h;unfold quoT;rw [h,restL_nil s p hp];rfl
theorem quo_low {s:ByteArray} {k p:Nat} {xs:List Int} (h:QuoSt s k p xs) (hp:p<s.size) (hc:((s[p].toNat:Nat):Int)<32):quoT (restL s (k+1))=none:=by
 unfold QuoSt at h;unfold quoT;rw [h,restL_cons s p hp,quoF_cons,if_pos hc];rfl
theorem quo_next {s:ByteArray} {k p:Nat} {xs:List Int} {a:Int} (h:QuoSt s k p xs) (hk:k+1≤p) (hp:p<s.size) (ha:((s[p].toNat:Nat):Int)=a) (h1:¬ a<32) (h2:¬ a=34):QuoSt s k (p+1) (xs++[a]):=by
 unfold QuoSt at h ⊢
 rw [h,restL_cons s p hp,quoF_cons,ha,if_neg h1,if_pos h2]
 cases quoF (restL s (p+1)) with
 | none=>rfl
 | some q =>
   simp only [Option.map_some,Option.some.injEq,Prod.mk.injEq,List.append_assoc,List.cons_append,List.nil_append,true_and];omega
theorem quo_two {s:ByteArray} {k p:Nat} {xs:List Int} (h:QuoSt s k p xs) (hk:k+1≤p) (hp:p<s.size) (ha:((s[p].toNat:Nat):Int)=34) (hp2:p+1<s.size) (ha2:((s[p+1].toNat:Nat):Int)=34):QuoSt s k (p+1+1) (xs++[34]):=by
 unfold QuoSt at h ⊢
 rw [h,restL_cons s p hp,restL_cons s (p+1) hp2,quoF_cons,ha,ha2,if_neg (by omega),if_neg (by omega)]
 simp only [if_true]
 cases quoF (restL s (p+1+1)) with
 | none=>rfl
 | some q =>
   simp only [Option.map_some,Option.some.injEq,Prod.mk.injEq,List.append_assoc,List.cons_append,List.nil_append,true_and];omega
theorem quo_last {s:ByteArray} {k p:Nat} {xs:List Int} (h:QuoSt s k p xs) (hk:k+1≤p) (hp:p<s.size) (ha:((s[p].toNat:Nat):Int)=34) (h2:∀ h:p+1<s.size,¬ ((s[p+1].toNat:Nat):Int)=34) :
 quoT (restL s (k+1))=some ({ Tk.zero with kind:=2,text:=strOfNums xs },p+1 - k):=by
 unfold QuoSt at h
 have hq:quoF (restL s p)=some ([],1):=by
  rw [restL_cons s p hp,quoF_cons,ha,if_neg (by omega),if_neg (by omega)]
  by_cases hp2:p+1<s.size
  · rw [restL_cons s (p+1) hp2]
    simp only [if_neg (h2 hp2)]
  · rw [restL_nil s (p+1) (by omega)]
 unfold quoT
 rw [h,hq]
 simp only [Option.map_some,List.append_nil,Option.some.injEq,Prod.mk.injEq,true_and];omega
theorem grownBy.below1 {a w w':World} {r:Option Nat} (h:a.grownBy w r) (k:Below (a.heap.size+1) w w'):a.grownBy w' r :=
 ⟨k.os.trans h.os,k.tape.trans h.tape,k.output.trans h.output,Nat.le_trans h.size k.size,fun j hj hr=>(k.block j (by omega)).trans (h.block j hj hr)⟩
theorem res_quoted:Tryz.f170.results=#[.cell 2 101,.tmp 3]:=by kernel_rfl
set_option maxRecDepth 100000 in
set_option maxHeartbeats 4000000 in
theorem quoted_any (b:Nat) (s:ByteArray) (k:Nat) (w:World) (h:LxAt w b s k) (_hs:s.size≤1000000) (_hk:k<s.size) :
 Calls Tryz.prog 170 #[.pointer (some ⟨b,0,none⟩)] w (TokOut (quoT (restL s (k+1))) b s k w):=by
 have hlt:=h.lt
 have hw0:w.heap.size≠b:=by omega
 have hbB:b<w.heap.size+1:=by omega
 obtain ⟨c0,c1⟩:=h.tok.facts
 have f1:=h.tok.frozen 1
 have hHAL:w.grownBy ((w.setCell ⟨b,1,none⟩ (.int .i64 ((k:Int)+1))).alloc (.cells zTok 101)) (some b):=grownBy.below' (grownBy.setCell' (grownBy.refl' _ _) _ _) ((Below.refl _ _).alloc (Nat.le_refl _) _)
 have HAL:=Lib.hid hHAL;clear hHAL
 have hTK:=TkAt.zero (w.setCell ⟨b,1,none⟩ (.int .i64 ((k:Int)+1)))
 rw [show (w.setCell ⟨b,1,none⟩ (.int .i64 ((k:Int)+1))).heap.size=w.heap.size by simp] at hTK
 have HTK:=Lib.hid hTK;clear hTK
 have HLX:=Lib.hid (h.setNext.tok);clear h
 go_enter Tryz.func170,Tryz.ntmps170
 go_wp2_with fail
 clear c0 c1 f1
 go_loopw [4] (fun v wr=>∃ (p:Nat) (xs:List Int),k+1≤p∧p≤s.size∧xs.length≤p∧Hid (Bytes xs)∧Hid (QuoSt s k p xs)∧Hid (LxAt wr b s p)∧Hid (Own8 wr (w.heap.size+1) v xs)∧Hid (TkAt wr w.heap.size Tk.zero)∧Hid (w.grownBy wr (some b)))
  (fun _ wr=>lxm b s.size wr)
 case atStart =>
  refine ⟨k+1,[],by omega,by omega,by simp,Lib.hid Bytes.nil,Lib.hid ?_,HLX,Lib.hid (Own.nil _ _ _ _),HTK,HAL⟩
  unfold QuoSt
  cases quoF (restL s (k+1)) with
  | none=>rfl
  | some q=>simp
 case round =>
  obtain ⟨p,xs,hkp,hps,hxl,HBY,HQ,HR,HO,HT,HG⟩:=hrel
  clear HAL HTK HLX
  have hmeas:=HR.out.lxm s.size
  have HME:=Lib.hid hmeas;clear hmeas
  obtain ⟨c0,c1⟩:=HR.out.facts
  have f1:=HR.out.frozen 1
  by_cases hlt:p<s.size
  · have hlt2 : (p:Int)<(s.size:Int):=by omega
    obtain ⟨a,ha⟩:∃ a:Int,(s[p].toNat:Int)=a:=⟨_,rfl⟩
    have ha1:0≤a∧a≤255:=by have:=s[p].toNat_lt;omega
    by_cases hlow:a<32
    · have HN:=Lib.hid (quo_low HQ.out hlt (by rw [ha];exact hlow))
      go_wp2_with fail
      go_quiet (fail)
      have HR1:=Lib.hid (HR.out.drewN nq);have HO1:=Lib.hid (HO.out.drewN nq);have HT1:=Lib.hid (HT.out.drewN nq);have HG1:=Lib.hid (grownBy.drewN' HG.out nq)
      generalize wr.drewN nq=w1 at HR1 HO1 HT1 HG1 ⊢
      clear c0 c1 f1 HR HO HT HG
      obtain ⟨c0,c1⟩:=HR1.out.facts
      have f1:=HR1.out.frozen 1
      go_wp2_with fail
      go_quiet (fail)
      have HR2:=Lib.hid (HR1.out.drewN nq);have HO2:=Lib.hid (HO1.out.drewN nq);have HT2:=Lib.hid (HT1.out.drewN nq);have HG2:=Lib.hid (grownBy.drewN' HG1.out nq)
      generalize w1.drewN nq=w2 at HR2 HO2 HT2 HG2 ⊢
      clear c0 c1 f1 HR1 HO1 HT1 HG1
      obtain ⟨c0,c1⟩:=HR2.out.facts
      have f1:=HR2.out.frozen 1
      obtain ⟨x0,x1,x2,x3,x4,x5,x6,x7,x8⟩:=HT2.out.cells
      obtain ⟨g0,g1,g2,g3,g4,g5,g6,g7,g8⟩:=HT2.out.melts
      go_wp2_with fail
      exact bodyPost_ret (out_tok (HT2.out.put9 Tk.zero) _ _ false 2 3 res_quoted rfl rfl) rfl ⟨grownBy.set9 HG2.out (Nat.le_refl _) _ _ _ _ _ _ _ _ _,.inr ⟨HN.out,Tk.zero,rfl⟩⟩
    · by_cases h34:a=34
      · have hb34:(a == 34)=true:=beq_iff_eq.2 h34
        obtain ⟨q,hq⟩:∃ q:Nat,p+1=q:=⟨_,rfl⟩
        go_wp2_with fail
        go_quiet (fail)
        have HR1:=Lib.hid (HR.out.drewN nq);have HO1:=Lib.hid (HO.out.drewN nq);have HT1:=Lib.hid (HT.out.drewN nq);have HG1:=Lib.hid (grownBy.drewN' HG.out nq)
        generalize wr.drewN nq=w1 at HR1 HO1 HT1 HG1 ⊢
        clear c0 c1 f1 HR HO HT HG
        obtain ⟨c0,c1⟩:=HR1.out.facts
        have f1:=HR1.out.frozen 1
        go_wp2_with fail
        go_quiet (fail)
        have HR2:=Lib.hid (HR1.out.drewN nq);have HO2:=Lib.hid (HO1.out.drewN nq);have HT2:=Lib.hid (HT1.out.drewN nq);have HG2:=Lib.hid (grownBy.drewN' HG1.out nq)
        generalize w1.drewN nq=w2 at HR2 HO2 HT2 HG2 ⊢
        clear c0 c1 f1 HR1 HO1 HT1 HG1
        obtain ⟨c0,c1⟩:=HR2.out.facts
        have f1:=HR2.out.frozen 1
        go_upto_region 10 with (fail)
        have HR3:=Lib.hid (HR2.out.setNext);have HO3:=Lib.hid (Own.other HO2.out (grownBy.setCell' (grownBy.refl' _ _) _ _) hbB:Own8 (w2.setCell ⟨b,1,none⟩ (.int .i64 ((p:Int)+1))) _ _ _);have HT3:=Lib.hid (HT2.out.grown (grownBy.setCell' (grownBy.refl' _ _) 1 (.int .i64 ((p:Int)+1))) hw0);have HG3:=Lib.hid (grownBy.setCell' HG2.out 1 (.int .i64 ((p:Int)+1)))
        generalize w2.setCell ⟨b,1,none⟩ (.int .i64 ((p:Int)+1))=w3 at HR3 HO3 HT3 HG3 ⊢
        clear c0 c1 f1 HR2 HO2 HT2 HG2
        obtain ⟨c0,c1⟩:=HR3.out.facts
        have f1:=HR3.out.frozen 1
        have HR3':=Lib.hid (show LxAt w3 b s q by rw [← hq];exact HR3.out)
        clear c0 c1 HR3
        have HR3:=HR3';clear HR3'
        obtain ⟨c0,c1⟩:=HR3.out.facts
        have HQP:=Lib.hid hq
        by_cases hlt3:q<s.size
        · have hlt4:((q:Int) == (s.size:Int))=false:=beq_eq_false_iff_ne.2 (by omega)
          have hlt5:(q:Int)<(s.size:Int):=by omega
          obtain ⟨a2,ha2⟩:∃ a2:Int,(s[q].toNat:Int)=a2:=⟨_,rfl⟩
          have ha21:0≤a2∧a2≤255:=by have:=s[q].toNat_lt;omega
          by_cases h342:a2=34
          · have hb342:(a2 == 34)=true:=beq_iff_eq.2 h342
            have HQ2:=Lib.hid (show QuoSt s k (q+1) (xs++[34]) by subst hq;exact quo_two HQ.out hkp hlt (by rw [ha,h34]) hlt3 (by rw [ha2,h342]))
            clear HQ hq
            go_quiet (fail)
            have HR4:=Lib.hid (HR3.out.drewN nq);have HO4:=Lib.hid (HO3.out.drewN nq);have HT4:=Lib.hid (HT3.out.drewN nq);have HG4:=Lib.hid (grownBy.drewN' HG3.out nq)
            generalize w3.drewN nq=w4 at HR4 HO4 HT4 HG4 ⊢
            clear c0 c1 f1 HR3 HO3 HT3 HG3
            obtain ⟨c0,c1⟩:=HR4.out.facts
            have f1:=HR4.out.frozen 1
            go_wp2_with (at_builtin;refine wpList_app Elem.u8 (encInt .u8) rfl (.tmp 76) (.tmp 78) rfl (w.heap.size+1) _ _ rfl (HO4.out.alloc _) ⟨_,0,none⟩ 1 1 [34] rfl rfl ?_ ?_ ?_ ?_ ?_;exact cells_new _ _ _ rfl;omega;(unfold maxLen;omega);(have:=HT4.out.lt;simp <;> omega);intro v' wz h1 h2;have HOz:=Lib.hid h1;have HBz:=Lib.hid (((Below.refl (w.heap.size+1) _).alloc (by have:=HT4.out.lt;omega) _).trans h2);clear h1 h2;have HRz:=Lib.hid (HR4.out.below HBz.out hbB);have HTz:=Lib.hid (HT4.out.below HBz.out (Nat.lt_succ_self _));have HGz:=Lib.hid (grownBy.below1 HG4.out HBz.out);clear HR4 HO4 HT4 HG4 c0 c1 f1;obtain ⟨c0,c1⟩:=HRz.out.facts;have f1:=HRz.out.frozen 1)
            go_roundw
            case rel =>
             refine ⟨q+1,xs++[34],by have:=HQP.out;omega,by omega,by have:=HQP.out;simp;omega,Lib.hid (HBY.out.append (by intro x hx;simp at hx;omega)),HQ2,Lib.hid HRz.out.setNext,Lib.hid (Own.other HOz.out (grownBy.setCell' (grownBy.refl' _ _) _ _) hbB),Lib.hid (HTz.out.grown (grownBy.setCell' (grownBy.refl' _ _) _ _) hw0),Lib.hid (grownBy.setCell' HGz.out _ _)⟩
            case measure =>
             have h1:=HRz.out.setNext.lxm s.size
             have h2:=HQP.out
             rw [HME.out]
             exact Nat.lt_of_le_of_lt (Nat.le_of_eq h1) (by omega)
          · have hb342:(a2 == 34)=false:=beq_eq_false_iff_ne.2 h342
            have HN:=Lib.hid (show quoT (restL s (k+1))=some ({ Tk.zero with kind:=2,text:=strOfNums xs },q - k) by subst hq;exact quo_last HQ.out hkp hlt (by rw [ha,h34]) (fun h=>by rw [ha2];exact h342))
            clear HQ hq
            go_quiet (fail)
            have HR4:=Lib.hid (HR3.out.drewN nq);have HO4:=Lib.hid (HO3.out.drewN nq);have HT4:=Lib.hid (HT3.out.drewN nq);have HG4:=Lib.hid (grownBy.drewN' HG3.out nq)
            generalize w3.drewN nq=w4 at HR4 HO4 HT4 HG4 ⊢
            clear c0 c1 f1 HR3 HO3 HT3 HG3
            obtain ⟨c0,c1⟩:=HR4.out.facts
            have f1:=HR4.out.frozen 1
            have hconv:=run_str8 HO4.out
            obtain ⟨x0,x1,x2,x3,x4,x5,x6,x7,x8⟩:=HT4.out.cells
            obtain ⟨g0,g1,g2,g3,g4,g5,g6,g7,g8⟩:=HT4.out.melts
            go_wp2_with fail
            exact bodyPost_ret (out_tok (HT4.out.put9 { Tk.zero with kind:=2,text:=strOfNums xs }) _ _ true 2 3 res_quoted rfl rfl) rfl ⟨grownBy.set9 HG4.out (Nat.le_refl _) _ _ _ _ _ _ _ _ _,.inl ⟨_,_,HN.out,rfl,by rw [show k+(q - k)=q from by have:=HQP.out;omega];exact HR4.out.set9 hw0 _ _ _ _ _ _ _ _ _⟩⟩
        · have hlt4:((q:Int) == (s.size:Int))=true:=beq_iff_eq.2 (by omega)
          have HN:=Lib.hid (show quoT (restL s (k+1))=some ({ Tk.zero with kind:=2,text:=strOfNums xs },q - k) by subst hq;exact quo_last HQ.out hkp hlt (by rw [ha,h34]) (fun h=>absurd h hlt3))
          clear HQ hq
          go_quiet (fail)
          have HR4:=Lib.hid (HR3.out.drewN nq);have HO4:=Lib.hid (HO3.out.drewN nq);have HT4:=Lib.hid (HT3.out.drewN nq);have HG4:=Lib.hid (grownBy.drewN' HG3.out nq)
          generalize w3.drewN nq=w4 at HR4 HO4 HT4 HG4 ⊢
          clear c0 c1 f1 HR3 HO3 HT3 HG3
          obtain ⟨c0,c1⟩:=HR4.out.facts
          have f1:=HR4.out.frozen 1
          have hconv:=run_str8 HO4.out
          obtain ⟨x0,x1,x2,x3,x4,x5,x6,x7,x8⟩:=HT4.out.cells
          obtain ⟨g0,g1,g2,g3,g4,g5,g6,g7,g8⟩:=HT4.out.melts
          go_wp2_with fail
          exact bodyPost_ret (out_tok (HT4.out.put9 { Tk.zero with kind:=2,text:=strOfNums xs }) _ _ true 2 3 res_quoted rfl rfl) rfl ⟨grownBy.set9 HG4.out (Nat.le_refl _) _ _ _ _ _ _ _ _ _,.inl ⟨_,_,HN.out,rfl,by rw [show k+(q - k)=q from by have:=HQP.out;omega];exact HR4.out.set9 hw0 _ _ _ _ _ _ _ _ _⟩⟩
      · have hb34:(a == 34)=false:=beq_eq_false_iff_ne.2 h34
        have HQ2:=Lib.hid (quo_next HQ.out hkp hlt ha hlow h34)
        clear HQ
        go_wp2_with fail
        go_quiet (fail)
        have HR1:=Lib.hid (HR.out.drewN nq);have HO1:=Lib.hid (HO.out.drewN nq);have HT1:=Lib.hid (HT.out.drewN nq);have HG1:=Lib.hid (grownBy.drewN' HG.out nq)
        generalize wr.drewN nq=w1 at HR1 HO1 HT1 HG1 ⊢
        clear c0 c1 f1 HR HO HT HG
        obtain ⟨c0,c1⟩:=HR1.out.facts
        have f1:=HR1.out.frozen 1
        go_wp2_with fail
        go_quiet (fail)
        have HR2:=Lib.hid (HR1.out.drewN nq);have HO2:=Lib.hid (HO1.out.drewN nq);have HT2:=Lib.hid (HT1.out.drewN nq);have HG2:=Lib.hid (grownBy.drewN' HG1.out nq)
        generalize w1.drewN nq=w2 at HR2 HO2 HT2 HG2 ⊢
        clear c0 c1 f1 HR1 HO1 HT1 HG1
        obtain ⟨c0,c1⟩:=HR2.out.facts
        have f1:=HR2.out.frozen 1
        go_wp2_with (at_builtin;refine wpList_app Elem.u8 (encInt .u8) rfl (.tmp 76) (.tmp 78) rfl (w.heap.size+1) _ _ rfl (HO2.out.alloc _) ⟨_,0,none⟩ 1 1 [a] rfl rfl ?_ ?_ ?_ ?_ ?_;exact cells_new _ _ _ rfl;omega;(unfold maxLen;omega);(have:=HT2.out.lt;simp <;> omega);intro v' wz h1 h2;have HOz:=Lib.hid h1;have HBz:=Lib.hid (((Below.refl (w.heap.size+1) _).alloc (by have:=HT2.out.lt;omega) _).trans h2);clear h1 h2;have HRz:=Lib.hid (HR2.out.below HBz.out hbB);have HTz:=Lib.hid (HT2.out.below HBz.out (Nat.lt_succ_self _));have HGz:=Lib.hid (grownBy.below1 HG2.out HBz.out);clear HR2 HO2 HT2 HG2 c0 c1 f1;obtain ⟨c0,c1⟩:=HRz.out.facts;have f1:=HRz.out.frozen 1)
        go_roundw
        case rel =>
         refine ⟨p+1,xs++[a],by omega,by omega,by simp;omega,Lib.hid (HBY.out.append (by intro x hx;simp at hx;omega)),HQ2,Lib.hid HRz.out.setNext,Lib.hid (Own.other HOz.out (grownBy.setCell' (grownBy.refl' _ _) _ _) hbB),Lib.hid (HTz.out.grown (grownBy.setCell' (grownBy.refl' _ _) _ _) hw0),Lib.hid (grownBy.setCell' HGz.out _ _)⟩
        case measure =>
         have h1:=HRz.out.setNext.lxm s.size
         rw [HME.out]
         exact Nat.lt_of_le_of_lt (Nat.le_of_eq h1) (by omega)
  · have hlt2:¬ (p:Int)<(s.size:Int):=by omega
    have HN:=Lib.hid (quo_end HQ.out (by omega))
    go_wp2_with fail
    go_quiet (fail)
    have HR1:=Lib.hid (HR.out.drewN nq);have HO1:=Lib.hid (HO.out.drewN nq);have HT1:=Lib.hid (HT.out.drewN nq);have HG1:=Lib.hid (grownBy.drewN' HG.out nq)
    generalize wr.drewN nq=w1 at HR1 HO1 HT1 HG1 ⊢
    clear c0 c1 f1 HR HO HT HG
    obtain ⟨c0,c1⟩:=HR1.out.facts
    have f1:=HR1.out.frozen 1
    obtain ⟨x0,x1,x2,x3,x4,x5,x6,x7,x8⟩:=HT1.out.cells
    obtain ⟨g0,g1,g2,g3,g4,g5,g6,g7,g8⟩:=HT1.out.melts
    go_wp2_with fail
    exact bodyPost_ret (out_tok (HT1.out.put9 Tk.zero) _ _ false 2 3 res_quoted rfl rfl) rfl ⟨grownBy.set9 HG1.out (Nat.le_refl _) _ _ _ _ _ _ _ _ _,.inr ⟨HN.out,Tk.zero,rfl⟩⟩
structure Vars (w:World):Prop where
 err:ErrV w
 sig:SigV w
theorem Vars.grown {w w':World} {b:Nat} (h:Vars w) (hg:w.grownBy w' (some b)) (hb:max 2 4<b):Vars w':=⟨h.err.grown hg (by omega),h.sig.grown hg hb⟩
theorem Vars.below {w w':World} (h:Vars w) (hb:Below w.heap.size w w'):Vars w':=⟨h.err.below hb,h.sig.below hb⟩
theorem m_num:∀ args (v:World),(callFunc 169 args).run Tryz.prog v = .ok (.enter 169 args) v:=Go.Proofs.enters_of Tryz.func169 (by kernel_rfl) rfl
theorem m_quo:∀ args (v:World),(callFunc 170 args).run Tryz.prog v = .ok (.enter 170 args) v:=Go.Proofs.enters_of Tryz.func170 (by kernel_rfl) rfl
theorem m_dead:∀ args (v:World),(callFunc 171 args).run Tryz.prog v = .ok (.enter 171 args) v:=Go.Proofs.enters_of Tryz.func171 (by kernel_rfl) rfl
theorem m_word:∀ args (v:World),(callFunc 173 args).run Tryz.prog v = .ok (.enter 173 args) v:=Go.Proofs.enters_of Tryz.func173 (by kernel_rfl) rfl
theorem m_sign:∀ args (v:World),(callFunc 174 args).run Tryz.prog v = .ok (.enter 174 args) v:=Go.Proofs.enters_of Tryz.func174 (by kernel_rfl) rfl
theorem method_any (b:Nat) (s:ByteArray) (k:Nat) (_hs:s.size≤1000000) (_hk:k<s.size) (hb2:max 2 4<b) (a:Int) (ha:((s[k].toNat:Nat):Int)=a) :
 (∀ args (v:World),(callFunc (methN a) args).run Tryz.prog v = .ok (.enter (methN a) args) v) ∧
 (∀ w,LxAt w b s k→Vars w→Calls Tryz.prog (methN a) #[.pointer (some ⟨b,0,none⟩)] w (TokOut (tokT (restL s k)) b s k w)):=by
 have hc:=restL_cons s k _hk
 rw [ha] at hc
 have ht:=tokT_cons a (restL s (k+1))
 rw [← hc] at ht
 rw [ht]
 cases hn:isNum a
 · rw [if_neg (by simp)]
   by_cases h34:a=34
   · rw [methN_quo hn h34,if_pos h34]
     exact ⟨m_quo,fun w h _=>quoted_any b s k w h _hs _hk⟩
   · rw [if_neg h34]
     by_cases h35:a=35
     · rw [methN_dead hn h34 h35,if_pos h35]
       exact ⟨m_dead,fun w h _=>dead_any b s k w h _hs _hk⟩
     · rw [if_neg h35]
       cases hb:isBeg a
       · rw [methN_sign hn h34 h35 hb,if_neg (by unfold isBeg at hb;simpa using hb)]
         exact ⟨m_sign,fun w h hv=>sign_any b s k w h _hs _hk hv.sig hb2⟩
       · rw [methN_word hn h34 h35 hb,if_pos (by unfold isBeg at hb;simpa using hb)]
         exact ⟨m_word,fun w h _=>word_any b s k w h _hs _hk (by rw [ha];exact hb)⟩
 · rw [methN_num hn,if_pos rfl]
   exact ⟨m_num,fun w h hv=>number_any b s k w h _hs _hk (by rw [ha];exact hn) hv.err (by omega)⟩
theorem TokOut.lit {o:Option (Tk × Nat)} {b:Nat} {s:ByteArray} {k:Nat} {w w':World} {e:Ending} (h:TokOut o b s k w e w') :
 w.grownBy w' (some b)∧((∃ t n,o=some (t,n)∧e = .returned (.tuple #[.agg #[.int .i64 t.kind,.string t.text,.int .i64 t.num,.string t.sh,.int .i64 t.c,.int .i64 t.r,.bool t.ac,.bool t.ar,.int .i64 t.pos],.bool true])∧LxAt w' b s (k+n))∨(o=none∧∃ t:Tk,e = .returned (.tuple #[.agg #[.int .i64 t.kind,.string t.text,.int .i64 t.num,.string t.sh,.int .i64 t.c,.int .i64 t.r,.bool t.ac,.bool t.ar,.int .i64 t.pos],.bool false]))):=h
theorem res_token:Tryz.f100.results=#[.cell 2 101,.tmp 3]:=by kernel_rfl
set_option maxRecDepth 100000 in
set_option maxHeartbeats 1600000 in
theorem token_any (b:Nat) (s:ByteArray) (k:Nat) (w:World) (h:LxAt w b s k) (_hs:s.size≤1000000) (_hk:k<s.size) (hb2:max 2 4<b) (hv:Vars w) :
 Calls Tryz.prog 100 #[.pointer (some ⟨b,0,none⟩)] w (TokOut ((tokT (restL s k)).map fun q=>(q.1.goto k,q.2)) b s k w):=by
 have hlt:=h.lt
 have hw0:w.heap.size≠b:=by omega
 obtain ⟨a,ha⟩:∃ a:Int,(s[k].toNat:Int)=a:=⟨_,rfl⟩
 have ha1:0≤a∧a≤255:=by have:=s[k].toNat_lt;omega
 obtain ⟨hen,hmeth⟩:=method_any b s k _hs _hk hb2 a ha
 have hmo:=fun w=>methodOf_any a ha1.1 ha1.2 w
 obtain ⟨F,hF⟩:∃ F,methN a=F:=⟨_,rfl⟩
 rw [hF] at hen hmeth
 simp only [hF] at hmo
 have HMO:=Lib.hid hmo;clear hmo hF
 have HM:=Lib.hid (hmeth _ h.tok (hv.grown (new_tok w b) hb2));clear hmeth hv
 have HAL:=Lib.hid (new_tok w b)
 have HTK:=Lib.hid (TkAt.zero w)
 obtain ⟨c0,c1⟩:=h.tok.facts
 clear h
 have hk2:(k:Int)<(s.size:Int):=by omega
 obtain ⟨o,ho⟩:∃ o,tokT (restL s k)=o:=⟨_,rfl⟩
 rw [ho] at HM ⊢
 clear ho
 go_enter Tryz.func100,Tryz.ntmps100
 go_wp2_with (go_at_call 131;((with_reducible refine (HMO.out _).mono ?_);rintro e w1 ⟨rfl,rfl⟩))
 refine HM.out.mono ?_
 intro e w1 he
 obtain ⟨h1,⟨t,n,rfl,rfl,h2⟩ | ⟨rfl,t,rfl⟩⟩:=he.lit
 · have H1:=Lib.hid h1;have H2:=Lib.hid h2;clear h1 h2 he
   have hB3:Below w1.heap.size w1 (w1.alloc (.cells #[.int .i64 t.kind,.string t.text,.int .i64 t.num,.string t.sh,.int .i64 t.c,.int .i64 t.r,.bool t.ac,.bool t.ar,.int .i64 (k:Int)] 101)):=(Below.refl _ _).alloc (Nat.le_refl _) _
   have hT1:=HTK.out.grown H1.out hw0
   have HT3:=Lib.hid (hT1.below hB3 hT1.lt)
   have HN3:TkAt (w1.alloc (.cells #[.int .i64 t.kind,.string t.text,.int .i64 t.num,.string t.sh,.int .i64 t.c,.int .i64 t.r,.bool t.ac,.bool t.ar,.int .i64 (k:Int)] 101)) w1.heap.size (t.goto k):=TkAt.new w1 (t.goto k)
   have HG3:=Lib.hid (grownBy.below' (grownBy.trans' HAL.out H1.out) hB3)
   have HL3:=Lib.hid (H2.out.below hB3 H2.out.lt)
   have hne2:w.heap.size≠w1.heap.size:=Nat.ne_of_lt hT1.lt
   clear hB3 hT1 HMO HM c0 c1
   go_upto_region 4 with (fail)
   generalize w1.alloc (.cells #[.int .i64 t.kind,.string t.text,.int .i64 t.num,.string t.sh,.int .i64 t.c,.int .i64 t.r,.bool t.ac,.bool t.ar,.int .i64 (k:Int)] 101)=w3 at HT3 HN3 HG3 HL3 ⊢
   obtain ⟨x0,x1,x2,x3,x4,x5,x6,x7,x8⟩:=HT3.out.cells
   obtain ⟨f0,f1,f2,f3,f4,f5,f6,f7,f8⟩:=HT3.out.melts
   obtain ⟨y0,y1,y2,y3,y4,y5,y6,y7,y8⟩:=HN3.cells
   clear HN3
   simp only [Tk.goto] at y0 y1 y2 y3 y4 y5 y6 y7 y8
   go_wp2_with fail
   exact bodyPost_ret (out_tok (HT3.out.put9 (t.goto k)) _ _ true 2 3 res_token rfl rfl) rfl ⟨grownBy.set9 HG3.out (Nat.le_refl _) _ _ _ _ _ _ _ _ _,.inl ⟨_,_,rfl,rfl,HL3.out.set9 hw0 _ _ _ _ _ _ _ _ _⟩⟩
 · have H1:=Lib.hid h1;clear h1 he
   have hB3:Below w1.heap.size w1 (w1.alloc (.cells #[.int .i64 t.kind,.string t.text,.int .i64 t.num,.string t.sh,.int .i64 t.c,.int .i64 t.r,.bool t.ac,.bool t.ar,.int .i64 (k:Int)] 101)):=(Below.refl _ _).alloc (Nat.le_refl _) _
   have hT1:=HTK.out.grown H1.out hw0
   have HT3:=Lib.hid (hT1.below hB3 hT1.lt)
   have HN3:TkAt (w1.alloc (.cells #[.int .i64 t.kind,.string t.text,.int .i64 t.num,.string t.sh,.int .i64 t.c,.int .i64 t.r,.bool t.ac,.bool t.ar,.int .i64 (k:Int)] 101)) w1.heap.size (t.goto k):=TkAt.new w1 (t.goto k)
   have HG3:=Lib.hid (grownBy.below' (grownBy.trans' HAL.out H1.out) hB3)
   have hne2:w.heap.size≠w1.heap.size:=Nat.ne_of_lt hT1.lt
   clear hB3 hT1 HMO HM c0 c1
   go_upto_region 4 with (fail)
   generalize w1.alloc (.cells #[.int .i64 t.kind,.string t.text,.int .i64 t.num,.string t.sh,.int .i64 t.c,.int .i64 t.r,.bool t.ac,.bool t.ar,.int .i64 (k:Int)] 101)=w3 at HT3 HN3 HG3 ⊢
   obtain ⟨x0,x1,x2,x3,x4,x5,x6,x7,x8⟩:=HT3.out.cells
   obtain ⟨f0,f1,f2,f3,f4,f5,f6,f7,f8⟩:=HT3.out.melts
   obtain ⟨y0,y1,y2,y3,y4,y5,y6,y7,y8⟩:=HN3.cells
   clear HN3
   simp only [Tk.goto] at y0 y1 y2 y3 y4 y5 y6 y7 y8
   go_wp2_with fail
   exact bodyPost_ret (out_tok (HT3.out.put9 (t.goto k)) _ _ false 2 3 res_token rfl rfl) rfl ⟨grownBy.set9 HG3.out (Nat.le_refl _) _ _ _ _ _ _ _ _ _,.inr ⟨rfl,t.goto k,rfl⟩⟩
def encTk:Enc Tk 9:={ f:=fun t=>(tokA t).toList,len:=fun _=>rfl,one:=fun t u hu=>tok_one t u hu }
theorem Elem.tok:∃ n,n≤100∧Elem Tryz.prog 90 101 9 n:=⟨80,by omega,Tryz.underlying90,⟨.agg zTok,by kernel_rfl,rfl⟩,by decide⟩
abbrev OwnT (w:World) (base:Nat) (v:Value) (ts:List Tk):Prop:=Own encTk 101 w base v ts
def lexP (s:ByteArray) (p:Nat):Option (List Tk):=lexF (restL s p).length p (restL s p)
theorem lexL_P (s:ByteArray):lexL (sb s)=lexP s 0:=rfl
theorem lexP_end (s:ByteArray) (p:Nat) (h:s.size≤p):lexP s p=some [Tk.zero.goto p]:=by
 unfold lexP;rw [restL_nil s p h];unfold lexF;rfl
theorem lexP_blank (s:ByteArray) (p:Nat) (h:p<s.size) (ha:((s[p].toNat:Nat):Int)=32):lexP s p=lexP s (p+1):=by
 unfold lexP;rw [restL_cons s p h,ha,List.length_cons,lexF_cons,if_pos rfl]
theorem lexP_skip (s:ByteArray):∀ (m p:Nat),(∀ x∈(restL s p).take m,isBl x=true)→p+m≤s.size→lexP s p=lexP s (p+m)
 | 0,_,_,_=>rfl
 | m + 1,p,h,hm=>by
   have hp:p<s.size:=by omega
   rw [restL_cons s p hp] at h
   have h0:((s[p].toNat:Nat):Int)=32:=by
    have:=h ((s[p].toNat:Nat):Int) (by simp)
    unfold isBl at this;simpa using this
   rw [lexP_blank s p hp h0,lexP_skip s m (p+1) (fun x hx=>h x (by simp [hx])) (by omega),show p+1+m=p+(m+1) from by omega]
theorem lexP_none (s:ByteArray) (p:Nat) (h:p<s.size) (h32:¬ ((s[p].toNat:Nat):Int)=32) (ht:tokT (restL s p)=none):lexP s p=none:=by
 unfold lexP;rw [restL_cons s p h] at ht ⊢;rw [List.length_cons,lexF_cons,if_neg h32,ht]
theorem lexP_tok (s:ByteArray) (p:Nat) (h:p<s.size) (h32:¬ ((s[p].toNat:Nat):Int)=32) (t:Tk) (n:Nat) (ht:tokT (restL s p)=some (t,n)):lexP s p=(lexP s (p+n)).map (t.goto p :: ·):=by
 have hn:=tokT_le _ _ _ ht
 have hd:=restL_drop s p n
 unfold lexP
 rw [restL_cons s p h] at ht hd hn ⊢
 rw [List.length_cons,lexF_cons,if_neg h32,ht]
 simp only
 rw [hd,lexF_more _ (restL s (p+n)).length _ _ (by rw [length_restL,length_restL];omega) (Nat.le_refl _)]
theorem span_all (p:Int→Bool) (l:List Int):∀ x∈l.take (l.takeWhile p).length,p x=true:=by
 have e:=take_split p l
 have h:l.take (l.takeWhile p).length=l.takeWhile p:=by
  have h0:(l.takeWhile p++l.drop (l.takeWhile p).length).take (l.takeWhile p).length=l.takeWhile p:=List.take_left
  rw [e] at h0;exact h0
 rw [h];exact take_all p l
theorem skip_head (s:ByteArray) (p q:Nat) (hq:p+((restL s p).takeWhile isBl).length=q) (h:q<s.size):¬ ((s[q].toNat:Nat):Int)=32:=by
 have h1:=take_head isBl (restL s p)
 rw [restL_drop,hq,restL_cons s q h] at h1
 have:=h1 _ rfl
 unfold isBl at this;simpa using this
theorem skip_le (s:ByteArray) (p:Nat) (h:p≤s.size):p+((restL s p).takeWhile isBl).length≤s.size:=by
 have:=take_le isBl (restL s p);rw [length_restL] at this;omega
theorem Vars.lt {w:World} (h:Vars w):max 2 4<w.heap.size:=by
 have hs:=h.sig.lt
 obtain ⟨ev,h1,_⟩:=h.err
 have hr:2<w.heap.size:=by
  rcases Nat.lt_or_ge 2 w.heap.size with h' | h'
  · exact h'
  · exfalso;unfold World.cell? at h1;simp only at h1;rw [Array.getElem?_eq_none h'] at h1;cases h1
 omega
theorem TokOut.no {b:Nat} {s:ByteArray} {k:Nat} {w w':World} {e:Ending} (h:TokOut none b s k w e w'):w.grownBy w' (some b)∧∃ t:Tk,e = .returned (.tuple #[.agg #[.int .i64 t.kind,.string t.text,.int .i64 t.num,.string t.sh,.int .i64 t.c,.int .i64 t.r,.bool t.ac,.bool t.ar,.int .i64 t.pos],.bool false]):=by
 rcases h.lit with ⟨h1,⟨t,n,h2,_⟩ | ⟨_,h2⟩⟩
 · cases h2
 · exact ⟨h1,h2⟩
theorem TokOut.yes {b:Nat} {s:ByteArray} {k n:Nat} {t:Tk} {w w':World} {e:Ending} (h:TokOut (some (t,n)) b s k w e w'):w.grownBy w' (some b)∧e = .returned (.tuple #[.agg #[.int .i64 t.kind,.string t.text,.int .i64 t.num,.string t.sh,.int .i64 t.c,.int .i64 t.r,.bool t.ac,.bool t.ar,.int .i64 t.pos],.bool true])∧LxAt w' b s (k+n):=by
 rcases h.lit with ⟨h1,⟨t',n',h2,h3,h4⟩ | ⟨h2,_⟩⟩
 · injection h2 with h2;injection h2 with h2 h5;subst h2;subst h5;exact ⟨h1,h3,h4⟩
 · cases h2
def Lexed (s:ByteArray) (w:World) (e:Ending) (w':World):Prop :=
 Below w.heap.size w w'∧((300<s.size∧e = .returned (.tuple #[.slice none 0 0,.int .i64 4]))∨(s.size≤300∧lexL (sb s)=none∧e = .returned (.tuple #[.slice none 0 0,.int .i64 5])) ∨
  (s.size≤300∧∃ ts v,lexL (sb s)=some ts∧e = .returned (.tuple #[v,.int .i64 0])∧OwnT w' w.heap.size v ts))
set_option maxRecDepth 100000 in
set_option maxHeartbeats 400000 in
theorem lex_large (s:ByteArray) (w:World) (h:300<s.size):Calls Tryz.prog 73 #[.string s] w (Lexed s w):=by
 have hi:(300:Int)<(s.size:Int):=by omega
 go_enter Tryz.func73,Tryz.ntmps73
 go_wp2_with fail
 go_ret2
 exact ⟨Below.refl _ _,.inl ⟨h,rfl⟩⟩
set_option maxRecDepth 100000 in
set_option maxHeartbeats 4000000 in
theorem lex_any (s:ByteArray) (w:World) (hv:Vars w):Calls Tryz.prog 73 #[.string s] w (Lexed s w):=by
 by_cases hbig:300<s.size
 · exact lex_large s w hbig
 have hi:¬ (300:Int)<(s.size:Int):=by omega
 have hs0:s.size≤1000000:=by omega
 obtain ⟨eb,hEB,EL⟩:=Elem.tok
 have HEL:=Lib.hid EL;clear EL
 have hb2:=hv.lt
 have HV:=Lib.hid hv;clear hv
 have hsk:=skipBlanks_any w.heap.size s 0 _ (LxAt.new w s) hs0 (by omega)
 rw [Nat.zero_add] at hsk
 obtain ⟨p0,hp0⟩:∃ p0,((restL s 0).takeWhile isBl).length=p0:=⟨_,rfl⟩
 rw [hp0] at hsk
 have HSK:=Lib.hid hsk;clear hsk
 have hp0le:=skip_le s 0 (Nat.zero_le _)
 rw [Nat.zero_add,hp0] at hp0le
 have HL0:=Lib.hid (show lexL (sb s)=(lexP s p0).map (([]:List Tk) ++ ·) by
  have:=lexP_skip s p0 0 (by rw [← hp0];exact span_all _ _) (by omega)
  rw [lexL_P,this,Nat.zero_add];cases lexP s p0 <;> rfl)
 have HH0:=Lib.hid (fun h=>skip_head s 0 p0 (by rw [hp0];omega) h)
 clear hp0
 go_enter Tryz.func73,Tryz.ntmps73
 go_wp2_with (go_at_call 99;((with_reducible refine HSK.out.mono ?_);rintro e w1 ⟨h1,rfl,h2⟩;have HB:=Lib.hid (below_of_grownBy ((Below.refl _ _).alloc (Nat.le_refl _) _) h1 (by simp) (Nat.le_refl _));have HR:=Lib.hid h2;clear h1 h2))
 go_loopw [5] (fun v wr=>∃ (p:Nat) (acc:List Tk),p≤s.size∧acc.length≤p∧Hid (lexL (sb s)=(lexP s p).map (acc ++ ·))∧Hid (∀ h:p<s.size,¬ ((s[p].toNat:Nat):Int)=32)∧Hid (LxAt wr w.heap.size s p)∧Hid (OwnT wr (w.heap.size+1) v acc)∧Hid (Below w.heap.size w wr))
  (fun _ wr=>lxm w.heap.size s.size wr)
 case atStart=>exact ⟨p0,[],hp0le,by simp,HL0,HH0,HR,Lib.hid (Own.nil _ _ _ _),HB⟩
 case round =>
  clear HL0 HH0 HSK HR HB
  obtain ⟨p,acc,hps,hal,HL,HH,HR,HO,HB⟩:=hrel
  obtain ⟨c0,c1⟩:=HR.out.facts
  have HME:=Lib.hid (HR.out.lxm s.size)
  by_cases hlt:p<s.size
  · have hlt2:(p:Int)<(s.size:Int):=by omega
    have hT:=token_any w.heap.size s p wr HR.out hs0 hlt hb2 (HV.out.below HB.out)
    cases hq:tokT (restL s p) with
    | none =>
      rw [hq] at hT
      have HT:=Lib.hid hT;clear hT
      have HN:=Lib.hid (show lexL (sb s)=none by rw [HL.out,lexP_none s p hlt (HH.out hlt) hq];rfl)
      clear hq
      go_wp2_with (go_at_call 100;((with_reducible refine HT.out.mono ?_);intro e w1 he;obtain ⟨h1,t,rfl⟩:=TokOut.no he;have HB1:=Lib.hid (below_of_grownBy HB.out h1 HB.out.size (Nat.le_refl _));clear h1 he))
      go_ret2
      exact ⟨HB1.out.alloc HB1.out.size _,.inr (.inl ⟨by omega,HN.out,rfl⟩)⟩
    | some q =>
      obtain ⟨t0,n0⟩:=q
      rw [hq] at hT
      obtain ⟨t1,ht1⟩:∃ t1,t0.goto p=t1:=⟨_,rfl⟩
      have hT:Calls Tryz.prog 100 #[.pointer (some ⟨w.heap.size,0,none⟩)] wr (TokOut (some (t1,n0)) w.heap.size s p wr):=by rw [← ht1];exact hT
      have HT:=Lib.hid hT;clear hT
      have hn0:=tokT_le _ _ _ hq
      rw [length_restL] at hn0
      have HL1:=Lib.hid (show lexL (sb s)=(lexP s (p+n0)).map ((acc++[t1]) ++ ·) by
       rw [← ht1,HL.out,lexP_tok s p hlt (HH.out hlt) t0 n0 hq,Option.map_map]
       congr 1;funext l;simp)
      clear hq HL HH ht1
      have hlt6:p+n0≤s.size:=by omega
      go_upto_region 11 with (go_at_call 100;((with_reducible refine HT.out.mono ?_);intro e w1 he;obtain ⟨h1,rfl,h2⟩:=TokOut.yes he;have HB1:=Lib.hid (below_of_grownBy HB.out h1 HB.out.size (Nat.le_refl _));have HO1:=Lib.hid (Own.other HO.out h1 (Nat.lt_succ_self _));have HR1:=Lib.hid h2;clear h1 h2 he))
      have hB3:Below w1.heap.size w1 (w1.alloc (.cells #[.int .i64 t1.kind,.string t1.text,.int .i64 t1.num,.string t1.sh,.int .i64 t1.c,.int .i64 t1.r,.bool t1.ac,.bool t1.ar,.int .i64 t1.pos] 101)):=(Below.refl _ _).alloc (Nat.le_refl _) _
      have HN3:TkAt (w1.alloc (.cells #[.int .i64 t1.kind,.string t1.text,.int .i64 t1.num,.string t1.sh,.int .i64 t1.c,.int .i64 t1.r,.bool t1.ac,.bool t1.ar,.int .i64 t1.pos] 101)) w1.heap.size t1:=TkAt.new w1 t1
      have HR3:=Lib.hid (HR1.out.below hB3 HR1.out.lt)
      have HO3:=Lib.hid (HO1.out.alloc (.cells #[.int .i64 t1.kind,.string t1.text,.int .i64 t1.num,.string t1.sh,.int .i64 t1.c,.int .i64 t1.r,.bool t1.ac,.bool t1.ar,.int .i64 t1.pos] 101))
      have HB3:=Lib.hid (HB1.out.trans (hB3.mono HB1.out.size))
      clear hB3 HT HB1 HO1 HR1 HB HO HR c0 c1
      generalize w1.alloc (.cells #[.int .i64 t1.kind,.string t1.text,.int .i64 t1.num,.string t1.sh,.int .i64 t1.c,.int .i64 t1.r,.bool t1.ac,.bool t1.ar,.int .i64 t1.pos] 101)=w3 at HR3 HN3 HO3 HB3 ⊢
      obtain ⟨y0,y1,y2,y3,y4,y5,y6,y7,y8⟩:=HN3.cells
      clear HN3
      go_upto_region 7 with (at_builtin;refine wpList_app HEL.out encTk rfl (.tmp 32) (.tmp 34) rfl (w.heap.size+1) _ _ rfl (HO3.out.alloc _) ⟨_,0,none⟩ 1 1 [t1] rfl rfl ?_ ?_ ?_ ?_ ?_;exact cells_new _ _ _ rfl;exact Nat.le_trans (Nat.mul_le_mul_left _ hEB) (by omega);(unfold maxLen;omega);(have:=HR3.out.lt;simp <;> omega);intro v' wz h1 h2;have HOz:=Lib.hid h1;have HBz:=Lib.hid (((Below.refl (w.heap.size+1) _).alloc (by have:=HR3.out.lt;omega) _).trans h2);clear h1 h2)
      have HR4:=Lib.hid (HR3.out.below HBz.out (Nat.lt_succ_self _))
      have HB4:=Lib.hid (HB3.out.trans (HBz.out.mono (Nat.le_succ _)))
      have hsk2:=skipBlanks_any w.heap.size s (p+n0) wz HR4.out hs0 hlt6
      obtain ⟨q,hq⟩:∃ q,p+n0+((restL s (p+n0)).takeWhile isBl).length=q:=⟨_,rfl⟩
      rw [hq] at hsk2
      have HSK2:=Lib.hid hsk2;clear hsk2
      have hqle:=skip_le s (p+n0) hlt6
      rw [hq] at hqle
      have HL5:=Lib.hid (show lexL (sb s)=(lexP s q).map ((acc++[t1]) ++ ·) by
       rw [HL1.out, ← hq]
       have:=lexP_skip s _ (p+n0) (span_all isBl _) (by rw [hq];exact hqle)
       rw [this])
      have HH5:=Lib.hid (fun h=>skip_head s (p+n0) q hq h)
      have hpq:p<q:=by omega
      clear hq HL1
      go_wp2_with (go_at_call 99;((with_reducible refine HSK2.out.mono ?_);rintro e w5 ⟨h1,rfl,h2⟩;have HB5:=Lib.hid (below_of_grownBy HB4.out h1 HB4.out.size (Nat.le_refl _));have HO5:=Lib.hid (Own.other HOz.out h1 (Nat.lt_succ_self _));have HR5:=Lib.hid h2;clear h1 h2))
      go_roundw
      case rel=>exact ⟨q,acc++[t1],hqle,by simp;omega,HL5,HH5,HR5,HO5,HB5⟩
      case measure =>
       have h1:=HR5.out.lxm s.size
       rw [HME.out,h1];omega
  · have hlt2:¬ (p:Int)<(s.size:Int):=by omega
    have HN:=Lib.hid (show lexL (sb s)=some (acc++[Tk.zero.goto p]) by rw [HL.out,lexP_end s p (by omega)];rfl)
    clear HL HH
    go_wp2_with (at_builtin;refine wpList_app HEL.out encTk rfl (.tmp 36) (.tmp 42) rfl (w.heap.size+1) _ _ rfl (HO.out.alloc _) ⟨_,0,none⟩ 1 1 [Tk.zero.goto p] rfl rfl ?_ ?_ ?_ ?_ ?_;exact cells_new _ _ _ rfl;exact Nat.le_trans (Nat.mul_le_mul_left _ hEB) (by omega);(unfold maxLen;omega);(have:=HR.out.lt;simp <;> omega);intro v' wz h1 h2;have HOz:=Lib.hid h1;have HBz:=Lib.hid (((Below.refl (w.heap.size+1) _).alloc (by have:=HR.out.lt;omega) _).trans h2);clear h1 h2)
    go_ret2
    exact ⟨HB.out.trans (HBz.out.mono (by have:=HR.out.lt;omega)),.inr (.inr ⟨by omega,_,_,HN.out,rfl,HOz.out.mono (by omega)⟩)⟩
theorem OwnT.cell {w:World} {base g n cap:Nat} {ts:List Tk} (h:OwnT w base (.slice (some ⟨g,0,none⟩) n cap) ts) (i:Nat) (t:Tk) (hi:ts[i]? = some t) (j:Nat) (hj:j<9):w.cell? ⟨g,i*9+j,none⟩=(tokA t).toList[j]? := by
 have hl:(tokA t).toList.length=9:=rfl
 have hu:(encTk.f t)[j]? = some ((tokA t).toList[j]'(by omega)):=List.getElem?_eq_getElem _
 have:=Own.cells h (i*9+j) _ (by rw [encTk.at ts i j t hi hj];exact hu)
 rw [this];exact hu.symm
theorem lex_is (s:ByteArray) (w:World) (hv:Vars w) (hs:s.size≤300) (ts:List Tk) (hl:lexL (sb s)=some ts) (hne:0<ts.length) :
 Calls Tryz.prog 73 #[.string s] w fun e w'=>Below w.heap.size w w'∧∃ g cap,e = .returned (.tuple #[.slice (some ⟨g,0,none⟩) ts.length cap,.int .i64 0])∧w.heap.size≤g∧g<w'.heap.size∧OwnT w' w.heap.size (.slice (some ⟨g,0,none⟩) ts.length cap) ts:=by
 refine (lex_any s w hv).mono ?_
 rintro e w' ⟨hb,h | ⟨_,h,_⟩ | ⟨_,ts',v,h1,rfl,h2⟩⟩
 · omega
 · rw [hl] at h;cases h
 · rw [hl] at h1;injection h1 with h1;subst h1
   obtain ⟨g,cap,rfl,h3,h4,_,_⟩:=Own.some h2 hne
   exact ⟨hb,g,cap,rfl,h3,h4,h2⟩
theorem lex_isnt (s:ByteArray) (w:World) (hv:Vars w) (hs:s.size≤300) (hl:lexL (sb s)=none) :
 Calls Tryz.prog 73 #[.string s] w fun e w'=>Below w.heap.size w w'∧e = .returned (.tuple #[.slice none 0 0,.int .i64 5]):=by
 refine (lex_any s w hv).mono ?_
 rintro e w' ⟨hb,h | ⟨_,_,rfl⟩ | ⟨_,ts',v,h1,_⟩⟩
 · omega
 · exact ⟨hb,rfl⟩
 · rw [hl] at h1;cases h1
structure Nv where
 n:Nd
 g:Option (Nat × Nat)
def Nv.kv (v:Nv):Value:=match v.g with
 | none => .slice none 0 0
 | some (g,c) => .slice (some ⟨g,0,none⟩) v.n.kids.length c
def nodA (n:Nd) (k:Value):Array Value:=#[.int .i64 n.kind,.int .i64 n.num,.string n.text,.string n.ref.sh,.int .i64 n.ref.c,.int .i64 n.ref.r,.bool n.ref.ac,.bool n.ref.ar,.string n.to.sh,.int .i64 n.to.c,.int .i64 n.to.r,.bool n.to.ac,.bool n.to.ar,k]
theorem Nv.one (v:Nv):v.kv.oneCell'=true:=by
 unfold Nv.kv;split <;> rfl
theorem nod_one (n:Nd) (k:Value) (hk:k.oneCell'=true):∀ u∈(nodA n k).toList,u.oneCell'=true:=by
 intro v hv
 simp only [nodA,List.mem_cons,List.not_mem_nil,or_false] at hv
 rcases hv with rfl | rfl | rfl | rfl | rfl | rfl | rfl | rfl | rfl | rfl | rfl | rfl | rfl | rfl
 all_goals first | rfl | exact hk
def encNv:Enc Nv 14:={ f:=fun v=>(nodA v.n v.kv).toList,len:=fun _=>rfl,one:=fun v u hu=>nod_one _ _ v.one u hu }
def NodV (w:World) (lo:Nat) (nv:Value) (vs:List Nv):Prop:=Own encNv 140 w lo nv vs∧∀ v∈vs,Own (encInt .i64) 3 w lo v.kv v.n.kids
theorem NodV.keep {w w':World} {lo:Nat} {nv:Value} {vs:List Nv} (h:NodV w lo nv vs) (hk:∀ g,lo≤g→g<w.heap.size→w'.heap[g]? = w.heap[g]?):NodV w' lo nv vs :=
 ⟨h.1.keep fun g a b _=>hk g a b,fun v hv=>(h.2 v hv).keep fun g a b _=>hk g a b⟩
theorem NodV.nil (w:World) (lo:Nat):NodV w lo (.slice none 0 0) []:=⟨Own.nil _ _ _ _,fun v hv=>absurd hv (by simp)⟩
def NodeRow (w:World) (k:Nat):Prop:=∃ cur fr,w.heap[k]? = some (.cells cur 140 fr)
structure Fr (w w':World) (b:Nat):Prop where
 os:w'.os=w.os
 tape:w'.tape=w.tape
 output:w'.output=w.output
 size:w.heap.size≤w'.heap.size
 block:∀ k,k<w.heap.size→k≠b→(k<b∨¬ NodeRow w k)→w'.heap[k]? = w.heap[k]?
theorem Fr.refl (w:World) (b:Nat):Fr w w b:=⟨rfl,rfl,rfl,Nat.le_refl _,fun _ _ _ _=>rfl⟩
theorem Fr.trans {w w1 w2:World} {b:Nat} (h:Fr w w1 b) (k:Fr w1 w2 b):Fr w w2 b :=
 ⟨k.os.trans h.os,k.tape.trans h.tape,k.output.trans h.output,Nat.le_trans h.size k.size,fun j hj hb hr=>by
  have h1:=h.block j hj hb hr
  rw [k.block j (Nat.lt_of_lt_of_le hj h.size) hb (hr.imp id fun hn ⟨cur,fr,e⟩=>hn ⟨cur,fr,by rw [← h1];exact e⟩)]
  exact h1⟩
theorem Fr.below {w w1 w2:World} {b:Nat} (h:Fr w w1 b) (k:Below w1.heap.size w1 w2):Fr w w2 b :=
 ⟨k.os.trans h.os,k.tape.trans h.tape,k.output.trans h.output,Nat.le_trans h.size k.size,fun j hj hb hr=>by
  rw [k.block j (Nat.lt_of_lt_of_le hj h.size)];exact h.block j hj hb hr⟩
theorem Fr.of {w w1:World} (b:Nat) (k:Below w.heap.size w w1):Fr w w1 b:=(Fr.refl w b).below k
theorem Fr.setCell {w w1:World} {b:Nat} (h:Fr w w1 b) (o:Nat) (v:Value):Fr w (w1.setCell ⟨b,o,none⟩ v) b :=
 ⟨h.os,h.tape,h.output,by simpa using h.size,fun j hj hb hr=>by
  rw [Below.heap_setCell _ _ _ _ (by intro e;exact hb e)];exact h.block j hj hb hr⟩
theorem Fr.drew {w w1:World} {b:Nat} (h:Fr w w1 b):Fr w w1.drew b:=⟨h.os,h.tape,h.output,h.size,h.block⟩
theorem Fr.row {w w1 w2:World} {b:Nat} {r:Option Nat} (h:Fr w w1 b) (k:w1.grownBy w2 r) (hr:∀ g,r=some g→b<g∧(w.heap.size≤g∨NodeRow w1 g)):Fr w w2 b :=
 ⟨k.os.trans h.os,k.tape.trans h.tape,k.output.trans h.output,Nat.le_trans h.size k.size,fun j hj hb hc=>by
  have h1:=h.block j hj hb hc
  rw [k.block j (Nat.lt_of_lt_of_le hj h.size) (by
   intro e
   obtain ⟨h2,h3⟩:=hr j e.symm
   rcases h3 with h3 | ⟨cur,fr,h3⟩
   · omega
   · rcases hc with hc | hc
     · omega
     · exact hc ⟨cur,fr,by rw [← h1];exact h3⟩)]
  exact h1⟩
theorem Fr.toBelow {w w':World} {B b:Nat} (h:Fr w w' b) (hb:B≤b) (hB:B≤w.heap.size):Below B w w' :=
 ⟨h.os,h.tape,h.output,h.size,fun j hj=>h.block j (by omega) (by omega) (.inl (by omega))⟩
theorem Own.fr {α : Type} {size:Nat} {E:Enc α size} {e:TypeId} {w w':World} {base b:Nat} {v:Value} {xs:List α} (h:Own E e w base v xs) (hf:Fr w w' b) (hb:b<base) (he:e≠140):Own E e w' base v xs:=by
 refine ⟨h.1, ?_⟩
 rcases h.2 with h | ⟨g,cap,cur,h1,h2,h3,h4⟩
 · exact .inl h
 · refine .inr ⟨g,cap,cur,h1,h2, ?_,h4⟩
   rw [hf.block g (Array.getElem?_eq_some_iff.1 h3).1 (by omega) (.inr (by
    rintro ⟨c,fr,e2⟩
    rw [h3] at e2;injection e2 with e2;injection e2 with _ e2;exact he e2))];exact h3
def TokV (w:World) (b:Nat) (tv:Value) (ts:List Tk):Prop:=∃ g cap,tv = .slice (some ⟨g,0,none⟩) ts.length cap∧g<b∧OwnT w 0 tv ts
def opL3:List (ByteArray × Nat × Int):=[(⟨#[61]⟩,0,9),(⟨#[60,62]⟩,0,10),(⟨#[60]⟩,0,11),(⟨#[60,61]⟩,0,12),(⟨#[62]⟩,0,13),(⟨#[62,61]⟩,0,14),(⟨#[38]⟩,1,15),(⟨#[43]⟩,2,16),(⟨#[45]⟩,2,17),(⟨#[42]⟩,3,18),(⟨#[47]⟩,3,19)]
def opA:Array Value:=(opL3.flatMap fun p=>[.string p.1,.int .i64 (p.2.1:Int),.int .i64 p.2.2]).toArray
def OpV (w:World):Prop:=∃ ty fr,w.heap[(5:Nat)]? = some (.cells opA ty fr)
theorem OpV.lt {w:World} (h:OpV w):5<w.heap.size:=by obtain ⟨_,_,h⟩:=h;exact (Array.getElem?_eq_some_iff.1 h).1
theorem OpV.keep {w w':World} (h:OpV w) (hk:w'.heap[(5:Nat)]? = w.heap[(5:Nat)]?):OpV w':=by obtain ⟨ty,fr,h⟩:=h;exact ⟨ty,fr,by rw [hk];exact h⟩
theorem OpV.below {w w':World} (h:OpV w) (hb:Below w.heap.size w w'):OpV w':=h.keep (hb.block _ h.lt)
structure Ps (w:World) (b:Nat) (tv:Value) (ts:List Tk) (p deep:Nat) (nv:Value) (vs:List Nv):Prop where
 cell:w.heap[b]? = some (.cells #[tv,.int .i64 (p:Int),.int .i64 (deep:Int),nv] 111)
 toks:TokV w b tv ts
 nodes:NodV w (b+1) nv vs
 ops:OpV w
 lt:p<ts.length
 low:max 2 5<b
 fit:Fit ts
 few:ts.length≤1000
 cnt:vs.length≤p
 nest:deep≤12
section
variable {w:World} {b:Nat} {tv:Value} {ts:List Tk} {p deep:Nat} {nv:Value} {vs:List Nv}
theorem Ps.blt (h:Ps w b tv ts p deep nv vs):b<w.heap.size:=(Array.getElem?_eq_some_iff.1 h.cell).1
theorem Ps.below {w':World} (h:Ps w b tv ts p deep nv vs) (hb:Below w.heap.size w w'):Ps w' b tv ts p deep nv vs:=by
 have hl:=h.blt
 refine ⟨by rw [hb.block b hl];exact h.cell, ?_,h.nodes.keep fun g _ hg=>hb.block g hg,h.ops.below hb,h.lt,h.low,h.fit,h.few,h.cnt,h.nest⟩
 obtain ⟨g,cap,h1,h2,h3⟩:=h.toks
 exact ⟨g,cap,h1,h2,h3.keep fun g _ hg _=>hb.block g hg⟩
theorem Ps.facts (h:Ps w b tv ts p deep nv vs):w.cell? ⟨b,0,none⟩=some tv∧w.cell? ⟨b,1,none⟩=some (.int .i64 (p:Int))∧w.cell? ⟨b,2,none⟩=some (.int .i64 (deep:Int))∧w.cell? ⟨b,3,none⟩=some nv :=
 ⟨by rw [cell_of_row w b 0 _ _ _ h.cell];rfl,by rw [cell_of_row w b 1 _ _ _ h.cell];rfl,by rw [cell_of_row w b 2 _ _ _ h.cell];rfl,by rw [cell_of_row w b 3 _ _ _ h.cell];rfl⟩
theorem Ps.frozen (h:Ps w b tv ts p deep nv vs) (j:Nat):w.frozen? ⟨b,j,none⟩=false:=frozen_of_row w b j _ _ h.cell
theorem TokV.set (h:TokV w b tv ts) (o:Nat) (v:Value):TokV (w.setCell ⟨b,o,none⟩ v) b tv ts:=by
 obtain ⟨g,cap,h1,h2,h3⟩:=h
 refine ⟨g,cap,h1,h2,h3.keep fun j _ _ hj=>Below.heap_setCell _ _ _ _ ?_⟩
 rw [h1] at hj;injection hj with hj
 show j≠b
 have:g=j:=hj
 omega
theorem NodV.set {c:Nat} (h:NodV w (b+1) nv vs) (hc:c<b+1) (o:Nat) (v:Value):NodV (w.setCell ⟨c,o,none⟩ v) (b+1) nv vs :=
 h.keep fun j hj _=>Below.heap_setCell _ _ _ _ (by show j≠c;omega)
theorem OpV.set (h:OpV w) (hb:max 2 5<b) (o:Nat) (v:Value):OpV (w.setCell ⟨b,o,none⟩ v):=h.keep (Below.heap_setCell _ _ _ _ (by show 5≠b;omega))
theorem Ps.setP (h:Ps w b tv ts p deep nv vs) (m:Nat) (hm:m<ts.length) (hp:p≤m):Ps (w.setCell ⟨b,1,none⟩ (.int .i64 (m:Int))) b tv ts m deep nv vs :=
 ⟨by rw [heap_setCell_same w b 1 _ _ _ h.cell];rfl,h.toks.set _ _,h.nodes.set (by omega) _ _,h.ops.set h.low _ _,hm,h.low,h.fit,h.few,by have:=h.cnt;omega,h.nest⟩
theorem Ps.next (h:Ps w b tv ts p deep nv vs) (hm:p+1<ts.length):Ps (w.setCell ⟨b,1,none⟩ (.int .i64 ((p:Int)+1))) b tv ts (p+1) deep nv vs:=h.setP (p+1) hm (by omega)
theorem Ps.setD (h:Ps w b tv ts p deep nv vs) (m:Nat) (hm:m≤12):Ps (w.setCell ⟨b,2,none⟩ (.int .i64 (m:Int))) b tv ts p m nv vs :=
 ⟨by rw [heap_setCell_same w b 2 _ _ _ h.cell];rfl,h.toks.set _ _,h.nodes.set (by omega) _ _,h.ops.set h.low _ _,h.lt,h.low,h.fit,h.few,h.cnt,hm⟩
theorem Ps.drew (h:Ps w b tv ts p deep nv vs):Ps w.drew b tv ts p deep nv vs:=⟨h.cell,h.toks,h.nodes,h.ops,h.lt,h.low,h.fit,h.few,h.cnt,h.nest⟩
theorem Ps.tok (h:Ps w b tv ts p deep nv vs):∃ g cap t,tv = .slice (some ⟨g,0,none⟩) ts.length cap∧ts[p]? = some t∧ts.drop p=t :: ts.drop (p+1)∧g<w.heap.size∧w.cell? ⟨g,p*9,none⟩=some (.int .i64 t.kind)∧w.cell? ⟨g,p*9+1,none⟩=some (.string t.text)∧w.cell? ⟨g,p*9+2,none⟩=some (.int .i64 t.num)∧w.cell? ⟨g,p*9+3,none⟩=some (.string t.sh)∧w.cell? ⟨g,p*9+4,none⟩=some (.int .i64 t.c)∧w.cell? ⟨g,p*9+5,none⟩=some (.int .i64 t.r)∧w.cell? ⟨g,p*9+6,none⟩=some (.bool t.ac)∧w.cell? ⟨g,p*9+7,none⟩=some (.bool t.ar)∧w.cell? ⟨g,p*9+8,none⟩=some (.int .i64 t.pos):=by
 obtain ⟨g,cap,h1,h2,h3⟩:=h.toks
 have hl:=h.lt
 rw [h1] at h3
 have hc:=fun j hj=>OwnT.cell h3 p _ (List.getElem?_eq_getElem hl) j hj
 exact ⟨g,cap,ts[p],h1,List.getElem?_eq_getElem hl,List.drop_eq_getElem_cons hl,by have:=h.blt;omega,hc 0 (by omega),hc 1 (by omega),hc 2 (by omega),hc 3 (by omega),hc 4 (by omega),hc 5 (by omega),hc 6 (by omega),hc 7 (by omega),hc 8 (by omega)⟩
end
theorem Fit.next {ts:List Tk} {p:Nat} {t:Tk} (h:Fit ts) (ht:ts[p]? = some t) (hk:t.kind≠0):p+1<ts.length:=by
 obtain ⟨body,e,rfl,he,_⟩:=h
 have hp:=(List.getElem?_eq_some_iff.1 ht).1
 rw [List.length_append,List.length_singleton] at hp ⊢
 rcases Nat.lt_or_ge p body.length with h1 | h1
 · omega
 · exfalso
   rw [List.getElem?_append_right h1,show p - body.length=0 from by omega] at ht
   simp at ht;subst ht;exact hk he
def psm (b n:Nat) (w:World):Nat:=n - (match w.cell? ⟨b,1,none⟩ with | some (.int _ m)=>m.toNat | _=>0)
theorem Ps.psm {w:World} {b:Nat} {tv:Value} {ts:List Tk} {p deep:Nat} {nv:Value} {vs:List Nv} (h:Ps w b tv ts p deep nv vs) (n:Nat):psm b n w=n - p:=by
 unfold Go.Proofs.YtdphoaabaajonaaGreatDoor.psm;rw [h.facts.2.1];rfl
theorem bld_info:∃ j,Tryz.prog.info? 118=some j∧j.size=2:=by
 have h:(Tryz.prog.info? 118).map (·.size)=some 2:=by kernel_rfl
 obtain ⟨j,h1,h2⟩:=Option.map_eq_some_iff.1 h
 exact ⟨j,h1,h2⟩
structure Fb (w w':World) (b:Nat):Prop where
 os:w'.os=w.os
 tape:w'.tape=w.tape
 output:w'.output=w.output
 size:w.heap.size≤w'.heap.size
 block:∀ k,k<w.heap.size→k≠b→(k<b∨∀ cur fr,w.heap[k]? ≠ some (.cells cur 5 fr))→w'.heap[k]? = w.heap[k]?
theorem Fb.refl (w:World) (b:Nat):Fb w w b:=⟨rfl,rfl,rfl,Nat.le_refl _,fun _ _ _ _=>rfl⟩
theorem Fb.trans {w w1 w2:World} {b:Nat} (h:Fb w w1 b) (k:Fb w1 w2 b):Fb w w2 b :=
 ⟨k.os.trans h.os,k.tape.trans h.tape,k.output.trans h.output,Nat.le_trans h.size k.size,fun j hj hb hr=>by
  have h1:=h.block j hj hb hr
  rw [k.block j (Nat.lt_of_lt_of_le hj h.size) hb (hr.imp id fun hn cur fr=>by rw [h1];exact hn cur fr)]
  exact h1⟩
theorem Fb.setCell {w:World} {b:Nat} (j:Nat) (v:Value):Fb w (w.setCell ⟨b,j,none⟩ v) b :=
 have h:=grownBy.setCell' (grownBy.refl' w (some b)) j v
 ⟨h.os,h.tape,h.output,h.size,fun k hk hkb _=>h.block k hk (fun e=>hkb (Option.some.inj e))⟩
theorem Fb.grown {w w':World} {b g:Nat} (h:w.grownBy w' (some g)) (hg:∃ cur fr,w.heap[g]? = some (.cells cur 5 fr)) (hb:b<g):Fb w w' b :=
 ⟨h.os,h.tape,h.output,h.size,fun k hk hkb hr=>h.block k hk (by
  intro e;injection e with e;subst e
  rcases hr with hr | hr
  · omega
  · obtain ⟨cur,fr,hx⟩:=hg;exact hr cur fr hx)⟩
theorem run_app_srcG {P:Program} {α : Type} {size t tx ty e bytes:Nat} {w:World} (EL:Elem P t e size bytes) (E:Enc α size) (base:Nat) (v:Value) (xs:List α) (hown:Own E e w base v xs)
 (x:Value) (m:Nat) (ys:List α) (hl:ys.length=m) (hs:Src P size tx x m (E.all ys) w) (hb:(xs.length+m)*bytes≤140737488355328) (hb2:xs.length+m≤maxLen) (hbase:base≤w.heap.size) :
 ∃ v' w',(Builtin.append_ #[t,tx] ty #[v,x]).run P w = .ok v' w'∧Own E e w' base v' (xs++ys)∧w.grownBy w' v.ownBlock:=by
 obtain ⟨z,hi,hz⟩:=EL.inf
 obtain ⟨i,hi1,hi2,hi3,hi4⟩:=info_parts hi
 have ht:=EL.und
 subst hi3
 subst hi4
 have hlx:=E.length_all xs
 have hly:=E.length_all ys
 rw [hl] at hly
 have hlen:(E.all (xs++ys)).length=(xs.length+m)*i.size:=by rw [E.length_all,List.length_append,hl]
 have hsmall:xs.length+m≤9223372036854775807:=by simp only [maxLen] at hb2;omega
 have grown:∀ (old:Nat),old<xs.length+m →
  Own E e (w.drew.alloc (.cells ((E.all xs++E.all ys).toArray++Builtin.zeroCells z.cells (grownCap w (xs.length+m) old e - (xs.length+m))) e)) base (.slice (some ⟨w.heap.size,0,none⟩) (xs.length+m) (grownCap w (xs.length+m) old e)) (xs++ys) ∧
  ∀ r,w.grownBy (w.drew.alloc (.cells ((E.all xs++E.all ys).toArray++Builtin.zeroCells z.cells (grownCap w (xs.length+m) old e - (xs.length+m))) e)) r:=by
  intro old ho
  have hge:=grownCap_ge w (xs.length+m) old e
  have hcm:grownCap w (xs.length+m) old e≤maxLen:=grownCap_le_maxLen w (xs.length+m) old e hb2
  refine ⟨?_,fun r=>grownBy.below' (grownBy.refl' _ _) (((Below.refl _ _).drew).alloc (Nat.le_refl _) _)⟩
  unfold Own
  rw [List.length_append,hl]
  refine ⟨hlen,.inr ⟨w.heap.size,_,_,rfl,hbase,heap_alloc_new w.drew _,hge,hcm, ?_, ?_⟩⟩
  · simp only [Array.size_append,List.size_toArray,size_zeroCells,hz,List.length_append,hlx,hly, ← Nat.add_mul]
    congr 1
    omega
  · simp only [Array.toList_append]
    rw [← E.all_append, ← hlen]
    exact List.take_left
 have h0:=hown
 rcases hown.2 with ⟨rfl,hn⟩ | ⟨g,cap,cur,rfl,hbg,hg,hnc,hcm,hcs,htake⟩
 · have hx:xs=[]:=List.eq_nil_of_length_eq_zero hn
   subst hx
   by_cases hm:m=0
   · subst hm
     have hy:ys=[]:=List.eq_nil_of_length_eq_zero hl
     subst hy
     refine ⟨.slice none 0 0,w, ?_,Own.nil E e w base,grownBy.refl' _ _⟩
     have hc:=hs.cells
     have hll:=hs.len
     have hc':(Builtin.firstCells i.size 0 x).run P w = .ok #[] w:=hc
     rcases hs.kind with ⟨e',hk⟩ | hk <;>
      simp [Builtin.append_,run_underlying ht,run_underlying hk,sizeOf,typeInfo,hi1,hll,hc']
   · have hgr:=grown 0 (by simp;omega)
     have hr:=run_append_grow_src (P:=P) w t tx ty e i z ht hi1 hi2 none 0 0 [] (by simp [Builtin.firstCells]) x m (E.all ys) hs (by omega) (by simp at hsmall;omega) (growslice_fits (by omega) (by simpa using hb))
     simp only [List.length_nil,Nat.zero_add,List.nil_append,Enc.all,List.flatMap_nil] at hgr hr ⊢
     exact ⟨_,_,hr,hgr.1,hgr.2 _⟩
 · by_cases hroom:xs.length+m≤cap
   · have hfit:xs.length*i.size+(E.all ys).length≤cur.size:=by rw [hly,hcs, ← Nat.add_mul];exact Nat.mul_le_mul_right _ hroom
     have hst:=run_storeCells_at P g (xs.length*i.size) e (E.all ys) 0 cur w hg (by omega) (E.one_all ys)
     simp only [Nat.add_zero] at hst
     refine ⟨.slice (some ⟨g,0,none⟩) (xs.length+m) cap,w.setRow g (cur.toList.take (xs.length*i.size)++E.all ys++cur.toList.drop (xs.length*i.size+(E.all ys).length)).toArray, ?_, ?_, ?_⟩
     · rcases hs.kind with ⟨e',hk⟩ | hk <;> simp [Builtin.append_,run_underlying ht,run_underlying hk,sizeOf,typeInfo,hi1,hs.len,hroom,hs.cells,Addr.add_lit,hst]
     · unfold Own
       rw [List.length_append,hl]
       refine ⟨hlen,.inr ⟨g,cap,_,rfl,hbg,setRow_heap w g cur _ e _ hg,hroom,hcm, ?_, ?_⟩⟩
       · simp only [List.size_toArray,List.length_append,List.length_take,List.length_drop,Array.length_toList]
         omega
       · rw [htake, ← hlen, ← E.all_append]
         exact List.take_left
     · exact ⟨rfl,rfl,rfl,by simp,fun k hk hne=>setRow_other w g k _ (fun e=>hne (congrArg some e))⟩
   · have hold:(Builtin.firstCells i.size xs.length (.slice (some ⟨g,0,none⟩) xs.length cap)).run P w.drew = .ok (E.all xs).toArray w.drew :=
      run_firstCells_some w.drew i.size xs.length ⟨g,0,none⟩ xs.length cap (E.all xs) hlx (World.ownsRow.cells (w:=w.drew) h0 (g:=g) rfl)
     have hgr:=grown cap (by omega)
     have hr:=run_append_grow_src (P:=P) w t tx ty e i z ht hi1 hi2 (some ⟨g,0,none⟩) xs.length cap (E.all xs) hold x m (E.all ys) hs (by omega) (by omega) (growslice_fits (by omega) hb)
     exact ⟨_,_,hr,hgr.1,hgr.2 _⟩
theorem wpList_app_srcG {P:Program} {α : Type} {size t tx e bytes:Nat} {w:World} {ops:Array Oper} {rest:List Oper} {o:Oper} {a:Act} {Q:Exit→Act→World→Prop} (EL:Elem P t e size bytes) (E:Enc α size)
 (hgd:o.guard=none) (s x:Operand) (ho:o.op = .call { callee := .builtin .append,args:=#[s,x],argTypes:=#[t,tx] }) (base:Nat) (v:Value) (xs:List α)
 (hs:a.eval s=v) (hown:Own E e w base v xs) (y:Value) (m:Nat) (ys:List α) (hx:a.eval x=y) (hl:ys.length=m) (hsrc:Src P size tx y m (E.all ys) w)
 (hb:(xs.length+m)*bytes≤140737488355328) (hb2:xs.length+m≤maxLen) (hbase:base≤w.heap.size)
 (h:∀ (v':Value) (w':World),Own E e w' base v' (xs++ys)→w.grownBy w' v.ownBlock→wpList P ops Q rest (a.put o.dst v') w'):wpList P ops Q (o :: rest) a w:=by
 obtain ⟨v',w',hrun,h2,h3⟩:=run_app_srcG (ty:=o.type) EL E base v xs hown y m ys hl hsrc hb hb2 hbase
 refine wpList_plain hgd fun _ hK => ?_
 unfold Oper.wp execOp
 simp only [ho,resolve,invoke,builtin,Sem.run_bind,Sem.run_pure,Result.andThen_ok,List.map_toArray,List.map_cons,List.map_nil,hs,hx,hrun]
 exact hK _ _ (h v' w' h2 h3)
theorem own_row8 {w:World} {b:Nat} {v:Value} {xs:List Int} (h:Own8 w b v xs) (g:Nat) (hg:v.ownBlock=some g):b≤g∧∃ cur fr,w.heap[g]? = some (.cells cur 5 fr):=by
 rcases h.2 with ⟨h1,_⟩ | ⟨g',cap',cur,h1,h2,h3,_⟩
 · rw [h1] at hg;cases hg
 · rw [h1] at hg
   have:g'=g:=Option.some.inj hg
   subst this
   exact ⟨h2,cur,_,h3⟩
theorem own_slice {α : Type} {size:Nat} {E:Enc α size} {e:TypeId} {w:World} {b:Nat} {v:Value} {xs:List α} (h:Own E e w b v xs):∃ ao n c,v = .slice ao n c:=by
 rcases h.2 with ⟨h1,_⟩ | ⟨g,cap,cur,h1,_⟩
 · exact ⟨_,_,_,h1⟩
 · exact ⟨_,_,_,h1⟩
theorem Fb.own {w w':World} {b:Nat} {v:Value} {xs:List Int} (h:Own8 w (b+1) v xs) (hg:w.grownBy w' v.ownBlock):Fb w w' b:=by
 cases hv:v.ownBlock with
 | none =>
   rw [hv] at hg
   exact ⟨hg.os,hg.tape,hg.output,hg.size,fun k hk _ _=>hg.block k hk (by simp)⟩
 | some g =>
   rw [hv] at hg
   obtain ⟨h1,h2⟩:=own_row8 h g hv
   exact Fb.grown hg h2 (by omega)
def WrAt (w:World) (b:Nat) (nv wv ad bv:Value):Prop:=w.heap[b]? = some (.cells #[nv,wv,ad,bv] 120)
section
variable {w:World} {b:Nat} {nv wv ad bv:Value}
theorem WrAt.lt (h:WrAt w b nv wv ad bv):b<w.heap.size:=(Array.getElem?_eq_some_iff.1 h).1
theorem WrAt.facts (h:WrAt w b nv wv ad bv):w.cell? ⟨b,0,none⟩=some nv∧w.cell? ⟨b,1,none⟩=some wv∧w.cell? ⟨b,2,none⟩=some ad∧w.cell? ⟨b,3,none⟩=some bv :=
 ⟨by rw [cell_of_row w b 0 _ _ _ h];rfl,by rw [cell_of_row w b 1 _ _ _ h];rfl,by rw [cell_of_row w b 2 _ _ _ h];rfl,by rw [cell_of_row w b 3 _ _ _ h];rfl⟩
theorem WrAt.frozen (h:WrAt w b nv wv ad bv) (j:Nat):w.frozen? ⟨b,j,none⟩=false:=frozen_of_row w b j _ _ h
theorem WrAt.below {w':World} {B:Nat} (h:WrAt w b nv wv ad bv) (hb:Below B w w') (hB:b<B):WrAt w' b nv wv ad bv:=by unfold WrAt;rw [hb.block b hB];exact h
theorem WrAt.put1 (h:WrAt w b nv wv ad bv) (v:Value):WrAt (w.setCell ⟨b,1,none⟩ v) b nv v ad bv:=by unfold WrAt;rw [heap_setCell_same w b 1 _ _ _ h];rfl
theorem WrAt.put2 (h:WrAt w b nv wv ad bv) (v:Value):WrAt (w.setCell ⟨b,2,none⟩ v) b nv wv v bv:=by unfold WrAt;rw [heap_setCell_same w b 2 _ _ _ h];rfl
theorem WrAt.put3 (h:WrAt w b nv wv ad bv) (v:Value):WrAt (w.setCell ⟨b,3,none⟩ v) b nv wv ad v:=by unfold WrAt;rw [heap_setCell_same w b 3 _ _ _ h];rfl
theorem WrAt.shape (h:WrAt w b nv wv ad bv):w.shape? b=some (120,4):=by
 have h':w.heap[b]? = some (.cells #[nv,wv,ad,bv] 120):=h
 simp [World.shape?,h']
end
set_option maxRecDepth 100000 in
set_option maxHeartbeats 1600000 in
theorem copy_used (w:World) (b:Nat) (h0:w.cell? ⟨b,2,none⟩=some (.pointer (some ⟨b,2,none⟩))) :
 Calls Tryz.prog 144 #[.pointer (some ⟨b,2,none⟩)] w fun e w'=>e = .returned (.tuple #[])∧w=w':=by
 obtain ⟨j,hj,_⟩:=bld_info
 go_enter Tryz.func144,Tryz.ntmps144
 go_wp2_with fail
 rw [Lib.run_neq_ptr_same w _ Tryz.underlying116 hj]
 go_wp2_with fail
 go_end0
 exact ⟨rfl,rfl⟩
set_option maxRecDepth 100000 in
set_option maxHeartbeats 1600000 in
theorem copy_fresh (w:World) (b:Nat) (nv wv bv:Value) (h:WrAt w b nv wv (.pointer none) bv) :
 Calls Tryz.prog 144 #[.pointer (some ⟨b,2,none⟩)] w fun e w'=>e = .returned (.tuple #[])∧w.setCell ⟨b,2,none⟩ (.pointer (some ⟨b,2,none⟩))=w':=by
 obtain ⟨j,hj,hjs⟩:=bld_info
 obtain ⟨-, -,h0, -⟩:=h.facts
 have hfz:=h.frozen 2
 have hsh:=h.shape
 have hlies:liesAt Tryz.prog Tryz.prog.depth 120 (4 / Tryz.prog.cellsOf 120) 2 118 1=true:=by kernel_rfl
 go_enter Tryz.func144,Tryz.ntmps144
 go_wp2_with fail
 rw [Lib.run_to_unsafe w ⟨b,2,none⟩ Tryz.underlying116 Tryz.underlying192 hj (by rw [hjs];decide) hsh (by show 2<4;omega)]
 simp only [Result.andThen]
 rw [Oper.upon_value]
 go_wp2_with fail
 rw [run_callFunc_extern Tryz.func184 (by kernel_rfl) (by kernel_rfl) (by kernel_rfl) (e:=Extern.AbiNoEscape.same) (by kernel_rfl)]
 rw [Lib.run_noEscape]
 simp only [Result.andThen]
 rw [Oper.upon_value]
 go_wp2_with fail
 rw [Lib.run_from_unsafe w ⟨b,2,none⟩ Tryz.underlying192 Tryz.underlying116 hj hsh hlies]
 simp only [Result.andThen]
 rw [Oper.upon_value]
 go_wp2_with fail
 go_end0
 exact ⟨rfl,rfl⟩
def WS (w:World) (b:Nat) (nv wv:Value) (txt:List Int):Prop:=∃ ad bv,WrAt w b nv wv ad bv∧(ad = .pointer none∨ad = .pointer (some ⟨b,2,none⟩))∧Own8 w (b+1) bv txt∧Bytes txt
theorem WS.lt {w:World} {b:Nat} {nv wv:Value} {txt:List Int} (h:WS w b nv wv txt):b<w.heap.size:=by obtain ⟨_,_,h,_⟩:=h;exact h.lt
theorem WS.below {w w':World} {b:Nat} {nv wv:Value} {txt:List Int} (h:WS w b nv wv txt) (hb:Below w.heap.size w w'):WS w' b nv wv txt:=by
 have hl:=h.lt
 obtain ⟨ad,bv,h1,h2,h3,h4⟩:=h;exact ⟨ad,bv,h1.below hb hl,h2,h3.below hb (Nat.le_refl _),h4⟩
set_option maxRecDepth 100000 in
set_option maxHeartbeats 1600000 in
theorem write_any (w:World) (b:Nat) (nv wv:Value) (txt:List Int) (s:ByteArray) (h:WS w b nv wv txt) (hlen:txt.length+s.size≤10000000000) :
 Calls Tryz.prog 110 #[.pointer (some ⟨b,2,none⟩),.string s] w fun e w'=>(∃ x,e = .returned (.tuple #[x,.nilIface]))∧WS w' b nv wv (txt++sb s)∧Fb w w' b:=by
 have step:∀ (ad bv:Value) (wc:World),WrAt wc b nv wv ad bv→Own8 wc (b+1) bv txt→∀ (v':Value) (w1:World),Own8 w1 (b+1) v' (txt++sb s)→wc.grownBy w1 bv.ownBlock→WrAt w1 b nv wv ad bv∧Fb wc w1 b:=by
  intro ad bv wc h1 h2 v' w1 _ hg
  have hf:=Fb.own h2 hg
  refine ⟨?_,hf⟩
  unfold WrAt
  rw [hg.block b h1.lt (fun e=>by have:=own_row8 h2 b e.symm;omega)];exact h1
 have HST:=Lib.hid step
 have hsm:s.size≤10000000000:=by omega
 obtain ⟨ad,bv,hw,had,ho,hby⟩:=h
 have HBY:=Lib.hid (hby.append (sb_bd s))
 clear hby
 clear step
 rcases had with rfl | rfl
 · have HCP:=Lib.hid (copy_fresh w b nv wv bv hw)
   have HW:=Lib.hid (hw.put2 (.pointer (some ⟨b,2,none⟩)))
   have HO:=Lib.hid (Own.other ho (grownBy.setCell' (grownBy.refl' w (some b)) 2 (.pointer (some ⟨b,2,none⟩))) (Nat.lt_succ_self b):Own8 (w.setCell ⟨b,2,none⟩ (.pointer (some ⟨b,2,none⟩))) (b+1) bv txt)
   have HF:=Lib.hid (Fb.setCell (w:=w) (b:=b) 2 (.pointer (some ⟨b,2,none⟩)))
   clear hw ho
   go_enter Tryz.func110,Tryz.ntmps110
   go_upto_region 2 with (go_at_call 144;((with_reducible refine HCP.out.mono ?_);rintro e w1 ⟨rfl,rfl⟩))
   generalize w.setCell ⟨b,2,none⟩ (.pointer (some ⟨b,2,none⟩))=w1 at HW HO HF ⊢
   obtain ⟨c0,c1,c2,c3⟩:=HW.out.facts
   have hbz:=HW.out.lt
   go_wp2_with (at_builtin;refine wpList_app_srcG Elem.u8 (encInt .u8) rfl (.tmp 12) (.tmp 13) rfl (b+1) _ _ rfl HO.out (.string s) s.size (sb s) rfl (length_sb s) (src_text s) ?_ ?_ ?_ ?_;omega;(unfold maxLen;omega);omega;intro v3 w3 h1 h2;obtain ⟨ao3,n3,c3',hv3⟩:=own_slice h1;subst hv3;obtain ⟨h3,h4⟩:=HST.out _ _ _ HW.out HO.out _ w3 h1 h2;have f3:=h3.frozen 3;obtain ⟨y0,y1,y2,y3⟩:=h3.facts;have HW3:=Lib.hid (h3.put3 (.slice ao3 n3 c3'));have HF3:=Lib.hid ((HF.out.trans h4).trans (Fb.setCell 3 (.slice ao3 n3 c3')));have HO3:=Lib.hid (Own.other h1 (grownBy.setCell' (grownBy.refl' w3 (some b)) 3 (.slice ao3 n3 c3')) (Nat.lt_succ_self b):Own8 (w3.setCell ⟨b,3,none⟩ (.slice ao3 n3 c3')) (b+1) (.slice ao3 n3 c3') (txt++sb s));clear h1 h2 h3 h4 c0 c1 c2 c3)
   go_ret2
   exact ⟨⟨_,rfl⟩,⟨_,_,HW3.out,.inr rfl,HO3.out,HBY.out⟩,HF3.out⟩
 · have HCP:=Lib.hid (copy_used w b hw.facts.2.2.1)
   have HW:=Lib.hid hw
   have HO:=Lib.hid ho
   have HF:=Lib.hid (Fb.refl w b)
   clear hw ho
   go_enter Tryz.func110,Tryz.ntmps110
   go_upto_region 2 with (go_at_call 144;((with_reducible refine HCP.out.mono ?_);rintro e w1 ⟨rfl,rfl⟩))
   obtain ⟨c0,c1,c2,c3⟩:=HW.out.facts
   have hbz:=HW.out.lt
   go_wp2_with (at_builtin;refine wpList_app_srcG Elem.u8 (encInt .u8) rfl (.tmp 12) (.tmp 13) rfl (b+1) _ _ rfl HO.out (.string s) s.size (sb s) rfl (length_sb s) (src_text s) ?_ ?_ ?_ ?_;omega;(unfold maxLen;omega);omega;intro v3 w3 h1 h2;obtain ⟨ao3,n3,c3',hv3⟩:=own_slice h1;subst hv3;obtain ⟨h3,h4⟩:=HST.out _ _ _ HW.out HO.out _ w3 h1 h2;have f3:=h3.frozen 3;obtain ⟨y0,y1,y2,y3⟩:=h3.facts;have HW3:=Lib.hid (h3.put3 (.slice ao3 n3 c3'));have HF3:=Lib.hid ((HF.out.trans h4).trans (Fb.setCell 3 (.slice ao3 n3 c3')));have HO3:=Lib.hid (Own.other h1 (grownBy.setCell' (grownBy.refl' w3 (some b)) 3 (.slice ao3 n3 c3')) (Nat.lt_succ_self b):Own8 (w3.setCell ⟨b,3,none⟩ (.slice ao3 n3 c3')) (b+1) (.slice ao3 n3 c3') (txt++sb s));clear h1 h2 h3 h4 c0 c1 c2 c3)
   go_ret2
   exact ⟨⟨_,rfl⟩,⟨_,_,HW3.out,.inr rfl,HO3.out,HBY.out⟩,HF3.out⟩
theorem cells_byte:Tryz.prog.cellsOf 5=1:=by kernel_rfl
theorem sb_list (s:ByteArray):sb s=s.data.toList.map fun x=>(x.toNat:Int):=rfl
set_option maxRecDepth 100000 in
set_option maxHeartbeats 2000000 in
theorem string_any (w:World) (b:Nat) (nv wv:Value) (txt:List Int) (h:WS w b nv wv txt) (hne:txt≠[]) :
 Calls Tryz.prog 81 #[.pointer (some ⟨b,2,none⟩)] w fun e w'=>e = .returned (.string (strOfNums txt))∧Below (b+1) w w':=by
 obtain ⟨ad,bv,hw, -,ho,hby⟩:=h
 obtain ⟨s,hs⟩:∃ s,strOfNums txt=s:=⟨_,rfl⟩
 have hsb:sb s=txt:=by rw [← hs];exact sb_str txt hby
 rw [hs]
 obtain ⟨l,hl⟩:∃ l,s.data.toList=l:=⟨_,rfl⟩
 have hls:(⟨l.toArray⟩:ByteArray)=s:=by rw [← hl]
 have htx:txt=l.map fun x=>(x.toNat:Int):=by rw [← hsb,sb_list,hl]
 have hl0:l≠[]:=fun e=>hne (by rw [htx,e];rfl)
 have hlen:txt.length=l.length:=by rw [htx,List.length_map]
 obtain ⟨g,cap,cur,rfl,hbg,hg,hnc,hcm,hcs,htake⟩:=ho.2.resolve_left (fun h=>hl0 (List.length_eq_zero_iff.1 (by rw [← hlen];exact h.2)))
 have hlp:0<l.length:=List.length_pos_iff.2 hl0
 have HO:=ho
 rw [hlen] at hnc hw
 have c3:w.cell? ⟨b,3,none⟩=some (.slice (some ⟨g,0,none⟩) l.length cap):=hw.facts.2.2.2
 have hSD:(Builtin.unsafeSliceData_ #[22] 159 #[.slice (some ⟨g,0,none⟩) l.length cap]).run Tryz.prog w.drew = .ok (.pointer (some ⟨g,0,none⟩)) w.drew :=
  Lib.run_unsafeSliceData_row _ _ _ _ _ _ (by omega)
 have hUS:(Builtin.unsafeString_ #[159,3] 9 #[.pointer (some ⟨g,0,none⟩),.int .i64 l.length]).run Tryz.prog w.drew = .ok (.string s) (w.drew.freeze ⟨g,0,none⟩ l.length):=by
  rw [← hls]
  refine Lib.run_unsafeString_row w.drew 159 3 9 5 Tryz.underlying159 cells_byte g cur.size (by have hg':w.drew.heap[g]? = some (.cells cur 5):=hg;simp [World.shape?,hg']) l hl0 (by omega) (by unfold maxLen at hcm;omega) ?_
  intro j x hx
  have h1:(txt.map fun y=>Value.int .u8 y)[j]? = some (.int .u8 (x.toNat:Int)):=by rw [htx,List.map_map,List.getElem?_map,hx];rfl
  have h2:((encInt .u8).all txt)[j]? = some (.int .u8 (x.toNat:Int)):=by rw [all_encInt];exact h1
  have:=Own.cells HO j _ h2
  simpa [Addr.add_mid] using this
 clear HO ho hby htake hcs htx hsb hl hls hs
 go_enter Tryz.func81,Tryz.ntmps81
 go_wp2_with fail
 go_region
 all_goals (go_wp2_with fail;go_ret;exact ⟨rfl,Lib.below_freeze (Below.drew (Below.refl (b+1) w)) (p:=⟨g,0,none⟩) hbg _⟩)
theorem res_ptoken:Tryz.f75.results=#[.cell 2 101]:=by kernel_rfl
theorem out_tok1 {w:World} {b:Nat} {t:Tk} (h:TkAt w b t) (fn:Func) (tmps:Array Value) (p:Tmp) (hf:fn.results=#[.cell p 101]) (hp:tmps.getD p undef = .pointer (some ⟨b,0,none⟩)) :
 (results fn tmps).run Tryz.prog w = .ok (.agg (tokA t)) w:=results_cell_row hf tmps w b 101 _ _ _ hp h Tryz.underlying101 rfl tok_size
set_option maxRecDepth 100000 in
set_option maxHeartbeats 800000 in
theorem ptoken_any {w:World} {b:Nat} {tv:Value} {ts:List Tk} {p deep:Nat} {nv:Value} {vs:List Nv} (h:Ps w b tv ts p deep nv vs) (t:Tk) (ht:ts[p]? = some t) :
 Calls Tryz.prog 75 #[.pointer (some ⟨b,0,none⟩)] w fun e w'=>e = .returned (.agg #[.int .i64 t.kind,.string t.text,.int .i64 t.num,.string t.sh,.int .i64 t.c,.int .i64 t.r,.bool t.ac,.bool t.ar,.int .i64 t.pos])∧Below w.heap.size w w':=by
 have hal:Below w.heap.size w (w.alloc (.cells zTok 101)):=(Below.refl _ _).alloc (Nat.le_refl _) _
 have h1:=h.below hal
 obtain ⟨c0,c1,c2,c3⟩:=h1.facts
 obtain ⟨g,cap,t',rfl,ht', -,hg,k0,k1,k2,k3,k4,k5,k6,k7,k8⟩:=h1.tok
 rw [ht] at ht';injection ht' with ht';subst ht'
 have hlt:=h.lt
 have hi1:(0:Int)≤(p:Int):=by omega
 have hi2:(p:Int)<(ts.length:Int):=by omega
 obtain ⟨n,hn⟩:∃ n,ts.length=n:=⟨_,rfl⟩
 rw [hn] at hi2 c0
 have HTK:=TkAt.zero w
 obtain ⟨x0,x1,x2,x3,x4,x5,x6,x7,x8⟩:=HTK.cells
 obtain ⟨f0,f1,f2,f3,f4,f5,f6,f7,f8⟩:=HTK.melts
 have HTK:=Lib.hid HTK
 have HAL:=Lib.hid hal
 clear h h1 hal c2 c3 ht hlt hn
 go_enter Tryz.func75,Tryz.ntmps75
 go_wp2_with fail
 go_region
 go_wp2_with fail
 exact bodyPost_ret (out_tok1 (TkAt.new w t).drew _ _ 2 res_ptoken rfl) rfl ⟨rfl,((Below.refl _ _).alloc (Nat.le_refl _) _).drew⟩
theorem sign_at {s:ByteArray} {ts:List Tk} {p:Nat} {t:Tk} (hd:ts.drop p=t :: ts.drop (p+1)):signIs s (ts.drop p)=(decide (t.kind=5)&&decide (t.text=s)):=by rw [hd];rfl
set_option maxRecDepth 100000 in
set_option maxHeartbeats 800000 in
theorem isSign_any {w:World} {b:Nat} {tv:Value} {ts:List Tk} {p deep:Nat} {nv:Value} {vs:List Nv} (h:Ps w b tv ts p deep nv vs) (s:ByteArray) :
 Calls Tryz.prog 133 #[.pointer (some ⟨b,0,none⟩),.string s] w fun e w'=>e = .returned (.bool (signIs s (ts.drop p)))∧Below w.heap.size w w':=by
 obtain ⟨g,cap,t, -,ht,hd, -⟩:=h.tok
 have HT:=Lib.hid (ptoken_any h t ht)
 have HS:=Lib.hid (sign_at (s:=s) hd)
 clear h ht hd
 go_enter Tryz.func133,Tryz.ntmps133
 go_upto_region 2 with (go_at_call 75;((with_reducible refine HT.out.mono ?_);rintro e w1 ⟨rfl,h1⟩;have HB:=Lib.hid h1;clear h1))
 have hB3:Below w1.heap.size w1 (w1.alloc (.cells #[.int .i64 t.kind,.string t.text,.int .i64 t.num,.string t.sh,.int .i64 t.c,.int .i64 t.r,.bool t.ac,.bool t.ar,.int .i64 t.pos] 101)):=(Below.refl _ _).alloc (Nat.le_refl _) _
 have HN3:TkAt (w1.alloc (.cells #[.int .i64 t.kind,.string t.text,.int .i64 t.num,.string t.sh,.int .i64 t.c,.int .i64 t.r,.bool t.ac,.bool t.ar,.int .i64 t.pos] 101)) w1.heap.size t:=TkAt.new w1 t
 have HB3:=Lib.hid (HB.out.trans (hB3.mono HB.out.size))
 clear hB3 HB
 generalize w1.alloc (.cells #[.int .i64 t.kind,.string t.text,.int .i64 t.num,.string t.sh,.int .i64 t.c,.int .i64 t.r,.bool t.ac,.bool t.ar,.int .i64 t.pos] 101)=w3 at HN3 HB3 ⊢
 obtain ⟨x0,x1,x2,x3,x4,x5,x6,x7,x8⟩:=HN3.cells
 clear HN3
 by_cases h5:t.kind=5
 · have e5:(t.kind == 5)=true:=beq_iff_eq.2 h5
   by_cases hs:t.text=s
   · have hs1:t.text.toList=s.toList:=by rw [hs]
     have HS1:=Lib.hid (show signIs s (ts.drop p)=true by rw [HS.out,decide_eq_true h5,decide_eq_true hs];rfl)
     clear h5 hs
     go_wp2_with fail
     go_ret
     exact ⟨by rw [HS1.out];rfl,HB3.out⟩
   · have HS1:=Lib.hid (show signIs s (ts.drop p)=false by rw [HS.out,decide_eq_true h5,decide_eq_false hs];rfl)
     have HE:=Lib.hid (show (t.text.toList == s.toList)=false from beq_eq_false_iff_ne.2 (text_ne _ _ hs))
     clear h5 hs
     go_wp2_with fail
     go_ret
     exact ⟨by rw [HS1.out];exact ret_bool HE.out,HB3.out⟩
 · have e5:(t.kind == 5)=false:=beq_eq_false_iff_ne.2 h5
   have HS1:=Lib.hid (show signIs s (ts.drop p)=false by rw [HS.out,decide_eq_false h5];rfl)
   clear h5
   go_wp2_with fail
   go_ret
   exact ⟨by rw [HS1.out];rfl,HB3.out⟩
theorem sign_next {w:World} {b:Nat} {tv:Value} {ts:List Tk} {p deep:Nat} {nv:Value} {vs:List Nv} (h:Ps w b tv ts p deep nv vs) {s:ByteArray} (hs:signIs s (ts.drop p)=true):p+1<ts.length:=by
 obtain ⟨g,cap,t, -,ht,hd, -⟩:=h.tok
 rw [sign_at hd,Bool.and_eq_true,decide_eq_true_iff] at hs
 exact h.fit.next ht (by omega)
set_option maxRecDepth 100000 in
set_option maxHeartbeats 400000 in
theorem root_any {w:World} {b:Nat} {tv:Value} {ts:List Tk} {p deep:Nat} {nv:Value} {vs:List Nv} (h:Ps w b tv ts p deep nv vs) (hne:0<vs.length) :
 Calls Tryz.prog 136 #[.pointer (some ⟨b,0,none⟩)] w fun e w'=>e = .returned (.int .i64 ((vs.length:Int) - 1))∧w=w':=by
 obtain ⟨c0,c1,c2,c3⟩:=h.facts
 obtain ⟨g,cap,rfl, -, -, -, -⟩:=Own.some h.nodes.1 hne
 have h1:=h.cnt
 have h2:=h.few
 have h3:=h.lt
 have hw1 : -9223372036854775808≤(vs.length:Int) - 1:=by omega
 have hw2:(vs.length:Int) - 1≤9223372036854775807:=by omega
 obtain ⟨n,hn⟩:∃ n,vs.length=n:=⟨_,rfl⟩
 rw [hn] at c3 hw1 hw2 ⊢
 clear h c0 c1 c2 h1 h2 h3 hne hn
 go_enter Tryz.func136,Tryz.ntmps136
 go_wp2_with fail
 go_ret
 exact ⟨rfl,rfl⟩
set_option maxRecDepth 100000 in
set_option maxHeartbeats 400000 in
theorem ptake_any {w:World} {b:Nat} {tv:Value} {ts:List Tk} {p deep:Nat} {nv:Value} {vs:List Nv} (h:Ps w b tv ts p deep nv vs) (s:ByteArray) :
 Calls Tryz.prog 176 #[.pointer (some ⟨b,0,none⟩),.string s] w fun e w'=>Fr w w' b∧e = .returned (.bool (signIs s (ts.drop p)))∧Ps w' b tv ts (if signIs s (ts.drop p)=true then p+1 else p) deep nv vs:=by
 have HS:=Lib.hid (isSign_any h s)
 have HP:=Lib.hid h
 cases hq:signIs s (ts.drop p)
 · rw [hq] at HS
   clear h hq
   go_enter Tryz.func176,Tryz.ntmps176
   go_wp2_with (go_at_call 133;((with_reducible refine HS.out.mono ?_);rintro e w1 ⟨rfl,h1⟩;have HB:=Lib.hid h1;clear h1))
   go_ret
   exact ⟨Fr.of b HB.out,rfl,HP.out.below HB.out⟩
 · have hnx:=sign_next h hq
   have h2:=h.few
   rw [hq] at HS
   clear h hq
   go_enter Tryz.func176,Tryz.ntmps176
   go_wp2_with (go_at_call 133;((with_reducible refine HS.out.mono ?_);rintro e w1 ⟨rfl,h1⟩;have HB:=Lib.hid h1;have HP1:=Lib.hid (HP.out.below h1);clear h1;obtain ⟨c0,c1,c2,c3⟩:=HP1.out.facts;have f1:=HP1.out.frozen 1))
   go_ret
   exact ⟨(Fr.of b HB.out).setCell _ _,rfl,HP1.out.next hnx⟩
set_option maxRecDepth 100000 in
set_option maxHeartbeats 400000 in
theorem popen_any {w:World} {b:Nat} {tv:Value} {ts:List Tk} {p deep:Nat} {nv:Value} {vs:List Nv} (h:Ps w b tv ts p deep nv vs) (hnx:p+1<ts.length) :
 Calls Tryz.prog 134 #[.pointer (some ⟨b,0,none⟩)] w fun e w'=>Fr w w' b∧((12≤deep∧e = .returned (.int .i64 6))∨(¬ 12≤deep∧e = .returned (.int .i64 0)∧Ps w' b tv ts (p+1) (deep+1) nv vs)):=by
 obtain ⟨c0,c1,c2,c3⟩:=h.facts
 have f1:=h.frozen 1
 have f2:=h.frozen 2
 have hn:=h.nest
 have hf:=h.few
 have HP:=Lib.hid h;clear h
 by_cases hd:12≤deep
 · have e12:((deep:Int) == 12)=true:=by rw [beq_iff_eq];omega
   go_enter Tryz.func134,Tryz.ntmps134
   go_wp2_with fail
   go_ret
   exact ⟨Fr.refl _ _,.inl ⟨hd,rfl⟩⟩
 · have e12:((deep:Int) == 12)=false:=by rw [beq_eq_false_iff_ne];omega
   go_enter Tryz.func134,Tryz.ntmps134
   go_wp2_with fail
   go_ret
   exact ⟨((Fr.refl _ _).setCell _ _).setCell _ _,.inr ⟨hd,rfl,(HP.out.setD (deep+1) (by omega)).next hnx⟩⟩
set_option maxRecDepth 100000 in
set_option maxHeartbeats 400000 in
theorem pclose_any {w:World} {b:Nat} {tv:Value} {ts:List Tk} {p deep:Nat} {nv:Value} {vs:List Nv} (h:Ps w b tv ts p (deep+1) nv vs) :
 Calls Tryz.prog 179 #[.pointer (some ⟨b,0,none⟩)] w fun e w'=>Fr w w' b∧((signIs ⟨#[41]⟩ (ts.drop p)=false∧e = .returned (.int .i64 5))∨(signIs ⟨#[41]⟩ (ts.drop p)=true∧e = .returned (.int .i64 0)∧Ps w' b tv ts (p+1) deep nv vs)):=by
 have HT:=Lib.hid (ptake_any h ⟨#[41]⟩)
 have hn:=h.nest
 clear h
 cases hq:signIs ⟨#[41]⟩ (ts.drop p)
 · rw [hq] at HT
   clear hq
   go_enter Tryz.func179,Tryz.ntmps179
   go_wp2_with (go_at_call 176;((with_reducible refine HT.out.mono ?_);rintro e w1 ⟨h1,rfl,h2⟩;have HF:=Lib.hid h1;clear h1 h2))
   go_ret
   exact ⟨HF.out,.inl ⟨by trivial,rfl⟩⟩
 · rw [hq] at HT
   clear hq
   go_enter Tryz.func179,Tryz.ntmps179
   go_wp2_with (go_at_call 176;((with_reducible refine HT.out.mono ?_);rintro e w1 ⟨h1,rfl,h2⟩;rw [if_pos rfl] at h2;have HF:=Lib.hid h1;have HP1:=Lib.hid h2;obtain ⟨c0,c1,c2,c3⟩:=h2.facts;have f2:=h2.frozen 2;rw [show ((deep+1:Nat):Int)=(deep:Int)+1 from rfl] at c2;clear h1 h2))
   go_ret
   refine ⟨HF.out.setCell _ _,.inr ⟨by trivial,rfl, ?_⟩⟩
   have:=HP1.out.setD deep (by omega)
   first
    | exact this
    | (rw [show (deep:Int)+1 - 1=(deep:Int) from by omega];exact this)
theorem run_index_agg {P:Program} {w:World} (t e:TypeId) (n sz:Nat) (cs:Array Value) (k:Nat) (v:Array Value) (d:TypeDesc) (h:P.underlying t=some (.array n e)) (he:P.underlying e=some d) (hd:(match d with | .struct _ | .array _ _=>true | _=>false)=true)
 (hsz:(P.info? e).map (·.size)=some sz) (hk:k<n) (hv:cs.extract (k*sz) (k*sz+sz)=v):(Instr.index t (.agg cs) (.int .i64 (k:Int))).run P w = .ok (.agg v) w:=by
 have h1:(0:Int)≤(k:Int)∧(k:Int)<(n:Int):=by omega
 cases hq:P.info? e with
 | none=>simp [hq] at hsz
 | some i =>
   have hs':i.size=sz:=by simp [hq] at hsz;exact hsz
   simp [Instr.index,run_underlying h,asIntOf,h1,sizeOf,typeInfo,hq,hs',part,isAgg,run_underlying he,go_sem]
   cases d <;> simp_all
theorem wpList_index_agg {P:Program} {ops:Array Oper} {rest:List Oper} {op:Oper} {a:Act} {w:World} {Q:Exit→Act→World→Prop} (hgd:op.guard=none) (t e:TypeId) (n sz:Nat) (x y:Operand) (ho:op.op = .index t x y)
 (cs:Array Value) (k:Nat) (v:Array Value) (d:TypeDesc) (h:P.underlying t=some (.array n e)) (he:P.underlying e=some d) (hd:(match d with | .struct _ | .array _ _=>true | _=>false)=true)
 (hsz:(P.info? e).map (·.size)=some sz) (hx:a.eval x = .agg cs) (hy:a.eval y = .int .i64 (k:Int)) (hk:k<n) (hv:cs.extract (k*sz) (k*sz+sz)=v)
 (hh:wpList P ops Q rest (a.put op.dst (.agg v)) w):wpList P ops Q (op :: rest) a w :=
 wpList_plain hgd fun _ hK=>by
  unfold Oper.wp execOp
  simp only [ho,hx,hy,Sem.run_bind,Sem.run_pure,Result.andThen_ok,run_index_agg t e n sz cs k v d h he hd hsz hk hv]
  exact hK _ _ hh
theorem find_at {α : Type} (f : α → Bool):∀ (l:List α) (j:Nat) (x : α),l[j]? = some x→f x=true→(∀ q y,q<j→l[q]? = some y→f y=false)→l.find? f=some x
 | [],j,x,h,_,_=>by simp at h
 | a :: l,0,x,h,hx,_=>by simp at h;subst h;rw [List.find?_cons,hx]
 | a :: l,j+1,x,h,hx,hn=>by
   rw [List.find?_cons,hn 0 a (by omega) rfl]
   exact find_at f l j x (by simpa using h) hx fun q y hq hy=>hn (q+1) y (by omega) (by simpa using hy)
theorem find_no {α : Type} (f : α → Bool):∀ (l:List α),(∀ (q:Nat) y,l[q]? = some y→f y=false)→l.find? f=none
 | [],_=>rfl
 | a :: l,h=>by rw [List.find?_cons,h 0 a rfl];exact find_no f l fun q y hy=>h (q+1) y (by simpa using hy)
def opIs (n:Nat) (ts:List Tk) (q:ByteArray × Nat × Int):Bool:=decide (q.2.1=n)&&signIs q.1 ts
theorem find_map (n:Nat) (ts:List Tk):∀ L:List (ByteArray × Nat × Int),(((L.filter fun q=>decide (q.2.1=n)).map fun q=>(q.1,q.2.2)).find? fun p=>signIs p.1 ts)=(L.find? (opIs n ts)).map fun q=>(q.1,q.2.2)
 | []=>rfl
 | a :: L=>by
   have ih:=find_map n ts L
   by_cases h:a.2.1=n
   · rw [List.filter_cons,if_pos (by simpa using h),List.map_cons,List.find?_cons,List.find?_cons]
     have e:opIs n ts a=signIs a.1 ts:=by unfold opIs;rw [decide_eq_true h,Bool.true_and]
     rw [e]
     cases signIs a.1 ts
     · exact ih
     · rfl
   · rw [List.filter_cons,if_neg (by simpa using h),List.find?_cons]
     have e:opIs n ts a=false:=by unfold opIs;rw [decide_eq_false h,Bool.false_and]
     rw [e];exact ih
theorem levelL_eq:∀ n:Nat,n≤3→levelL n=(opL3.filter fun q=>decide (q.2.1=n)).map fun q=>(q.1,q.2.2)
 | 0,_=>rfl
 | 1,_=>rfl
 | 2,_=>rfl
 | 3,_=>rfl
 | n+4,h=>by omega
theorem opK_find (n:Nat) (ts:List Tk) (h:n≤3):opK n ts=match opL3.find? (opIs n ts) with
 | some q=>q.2.2
 | none=>0:=by
 unfold opK
 rw [levelL_eq n h,find_map]
 cases opL3.find? (opIs n ts) <;> rfl
theorem op_at:∀ j:Nat,j<11→∃ q:ByteArray × Nat × Int,opL3[j]? = some q∧opA.extract (j*3) (j*3+3)=#[.string q.1,.int .i64 (q.2.1:Int),.int .i64 q.2.2]∧q.2.1≤3
 | 0,_=>⟨_,rfl,rfl,by decide⟩
 | 1,_=>⟨_,rfl,rfl,by decide⟩
 | 2,_=>⟨_,rfl,rfl,by decide⟩
 | 3,_=>⟨_,rfl,rfl,by decide⟩
 | 4,_=>⟨_,rfl,rfl,by decide⟩
 | 5,_=>⟨_,rfl,rfl,by decide⟩
 | 6,_=>⟨_,rfl,rfl,by decide⟩
 | 7,_=>⟨_,rfl,rfl,by decide⟩
 | 8,_=>⟨_,rfl,rfl,by decide⟩
 | 9,_=>⟨_,rfl,rfl,by decide⟩
 | 10,_=>⟨_,rfl,rfl,by decide⟩
 | j+11,h=>by omega
theorem ops_und:Tryz.prog.underlying 213=some (.array 11 212):=Tryz.underlying213
theorem ops_size:(Tryz.prog.info? 213).map (·.size)=some opA.size:=by kernel_rfl
theorem op_size:(Tryz.prog.info? 212).map (·.size)=some 3:=by kernel_rfl
def OpAt (w:World) (b:Nat) (q:ByteArray × Nat × Int):Prop:=w.heap[b]? = some (.cells #[.string q.1,.int .i64 (q.2.1:Int),.int .i64 q.2.2] 212)
theorem OpAt.new (w:World) (q:ByteArray × Nat × Int):OpAt (w.alloc (.cells #[.string q.1,.int .i64 (q.2.1:Int),.int .i64 q.2.2] 212)) w.heap.size q:=(Go.MapKept.heap_alloc w _).1
theorem OpAt.facts {w:World} {b:Nat} {q:ByteArray × Nat × Int} (h:OpAt w b q):w.cell? ⟨b,0,none⟩=some (.string q.1)∧w.cell? ⟨b,1,none⟩=some (.int .i64 (q.2.1:Int))∧w.cell? ⟨b,2,none⟩=some (.int .i64 q.2.2) :=
 ⟨by rw [cell_of_row w b 0 _ _ _ h];rfl,by rw [cell_of_row w b 1 _ _ _ h];rfl,by rw [cell_of_row w b 2 _ _ _ h];rfl⟩
theorem OpAt.lt {w:World} {b:Nat} {q:ByteArray × Nat × Int} (h:OpAt w b q):b<w.heap.size:=(Array.getElem?_eq_some_iff.1 h).1
theorem OpAt.below {w w':World} {B b:Nat} {q:ByteArray × Nat × Int} (h:OpAt w b q) (hb:Below B w w') (hB:b<B):OpAt w' b q:=by unfold OpAt;rw [hb.block b hB];exact h
set_option maxRecDepth 100000 in
set_option maxHeartbeats 1600000 in
theorem operator_any {w:World} {b:Nat} {tv:Value} {ts:List Tk} {p deep:Nat} {nv:Value} {vs:List Nv} (h:Ps w b tv ts p deep nv vs) (n:Nat) (hn:n≤3) :
 Calls Tryz.prog 175 #[.pointer (some ⟨b,0,none⟩),.int .i64 (n:Int)] w fun e w'=>e = .returned (.tuple #[.int .i64 (opK n (ts.drop p)),.bool (decide (opK n (ts.drop p)≠0))])∧Below w.heap.size w w':=by
 obtain ⟨ty,fr,hrow⟩:=h.ops
 have HP:=Lib.hid h;clear h
 have HROW:=Lib.hid hrow;clear hrow
 have HK:=Lib.hid (opK_find n (ts.drop p) hn)
 go_enter Tryz.func175,Tryz.ntmps175
 go_upto_region 1 with (fail)
 refine wp_region_lit ?_
 refine wpList_load_row rfl 213 (.global 5) rfl 5 rfl ty opA fr _ HROW.out ops_und rfl ops_size ?_
 go_wp2_with fail
 go_loopw [9] (fun i wr=>∃ j:Nat,j≤11∧i = .int .i64 j∧Hid (∀ q y,q<j→opL3[q]? = some y→opIs n (ts.drop p) y=false)∧Hid (Below w.heap.size w wr))
  (fun i _=>11 - (intOf i).toNat)
 case atStart=>exact ⟨0,by omega,rfl,Lib.hid (by intro q _ hq;omega),Lib.hid (Below.refl _ _)⟩
 case round =>
  obtain ⟨j,hj,rfl,HNO,HB⟩:=hrel
  by_cases hlt:j<11
  · have hji:(j:Int)<11:=by omega
    obtain ⟨q,hq1,hq2,hq3⟩:=op_at j hlt
    have HQ1:=Lib.hid hq1;have HQ2:=Lib.hid hq2;clear hq1 hq2
    go_upto_region 3 with (fail)
    refine wp_region_lit ?_
    refine wpList_index_agg rfl 213 212 11 3 (.tmp 8) (.tmp 9) rfl opA j _ _ ops_und Tryz.underlying212 rfl op_size rfl rfl hlt HQ2.out ?_
    go_upto_region 4 with (fail)
    have hB3:Below wr.heap.size wr (wr.alloc (.cells #[.string q.1,.int .i64 (q.2.1:Int),.int .i64 q.2.2] 212)):=(Below.refl _ _).alloc (Nat.le_refl _) _
    have HO:=OpAt.new wr q
    have HB3:=Lib.hid (HB.out.trans (hB3.mono HB.out.size))
    clear hB3 HB HQ2
    generalize wr.alloc (.cells #[.string q.1,.int .i64 (q.2.1:Int),.int .i64 q.2.2] 212)=w3 at HO HB3 ⊢
    generalize wr.heap.size=b3 at HO ⊢
    obtain ⟨x0,x1,x2⟩:=HO.facts
    have HP3:=Lib.hid (HP.out.below HB3.out)
    by_cases hr:q.2.1=n
    · have er:((q.2.1:Int) == (n:Int))=true:=by rw [beq_iff_eq,hr]
      have HS:=Lib.hid (isSign_any HP3.out q.1)
      cases hs:signIs q.1 (ts.drop p)
      · have HNO2:=Lib.hid (show opIs n (ts.drop p) q=false by unfold opIs;rw [hs,Bool.and_false])
        rw [hs] at HS
        clear hs hr
        go_wp2_with (go_at_call 133;((with_reducible refine HS.out.mono ?_);rintro e w4 ⟨rfl,h1⟩;have HB4:=Lib.hid (HB3.out.trans (h1.mono HB3.out.size));clear h1))
        go_roundw
        case rel =>
         refine ⟨j+1,by omega,by go_num,Lib.hid ?_,HB4⟩
         intro q' y hq' hy
         by_cases hqj:q'<j
         · exact HNO.out q' y hqj hy
         · rw [show q'=j from by omega,HQ1.out] at hy;injection hy with hy;subst hy;exact HNO2.out
        case measure=>simp [intOf];omega
      · have HK2:=Lib.hid (show opK n (ts.drop p)=q.2.2 by rw [HK.out,find_at (opIs n (ts.drop p)) opL3 j q HQ1.out (by unfold opIs;rw [hs,decide_eq_true hr];rfl) HNO.out])
        have HK3:=Lib.hid (show q.2.2≠0 from by
         have:∀ q∈opL3,q.2.2≠0:=by decide
         exact this q (List.mem_of_getElem? HQ1.out))
        rw [hs] at HS
        clear hs hr
        have HO3:=Lib.hid HO
        clear x0 x1 x2
        obtain ⟨x0,x1,x2⟩:=HO3.out.facts
        go_upto_region 5 with (go_at_call 133;((with_reducible refine HS.out.mono ?_);rintro e w4 ⟨rfl,h1⟩;have HB4:=Lib.hid (HB3.out.trans (h1.mono HB3.out.size));have HO4:=Lib.hid (HO3.out.below h1 HO3.out.lt);clear h1))
        clear x0 x1 x2
        obtain ⟨x0,x1,x2⟩:=HO4.out.facts
        go_wp2_with fail
        go_ret2
        exact ⟨by rw [HK2.out,decide_eq_true HK3.out];rfl,HB4.out⟩
    · have er:((q.2.1:Int) == (n:Int))=false:=by rw [beq_eq_false_iff_ne];omega
      have HNO2:=Lib.hid (show opIs n (ts.drop p) q=false by unfold opIs;rw [decide_eq_false hr,Bool.false_and])
      clear hr
      go_wp2_with fail
      go_roundw
      case rel =>
       refine ⟨j+1,by omega,by go_num,Lib.hid ?_,HB3⟩
       intro q' y hq' hy
       by_cases hqj:q'<j
       · exact HNO.out q' y hqj hy
       · rw [show q'=j from by omega,HQ1.out] at hy;injection hy with hy;subst hy;exact HNO2.out
      case measure=>simp [intOf];omega
  · have hji:¬ (j:Int)<11:=by omega
    have HK2:=Lib.hid (show opK n (ts.drop p)=0 by
     rw [HK.out,find_no (opIs n (ts.drop p)) opL3 (fun q y hy=>HNO.out q y (by have:=(List.getElem?_eq_some_iff.1 hy).1;have:q<11:=this;omega) hy)])
    go_wp2_with fail
    go_ret2
    exact ⟨by rw [HK2.out];rfl,HB.out⟩
def lvF:Nat→FuncId
 | 0=>101
 | 1=>102
 | 2=>103
 | 3=>104
 | 4=>105
 | _=>106
theorem e_lv:∀ n:Nat,n<6→∀ args (v:World),(callFunc (lvF n) args).run Tryz.prog v = .ok (.enter (lvF n) args) v
 | 0,_=>Go.Proofs.enters_of Tryz.func101 (by kernel_rfl) rfl
 | 1,_=>Go.Proofs.enters_of Tryz.func102 (by kernel_rfl) rfl
 | 2,_=>Go.Proofs.enters_of Tryz.func103 (by kernel_rfl) rfl
 | 3,_=>Go.Proofs.enters_of Tryz.func104 (by kernel_rfl) rfl
 | 4,_=>Go.Proofs.enters_of Tryz.func105 (by kernel_rfl) rfl
 | 5,_=>Go.Proofs.enters_of Tryz.func106 (by kernel_rfl) rfl
 | n+6,h=>by omega
def lvA (b:Nat):Array Value:=#[.func (.func 101) #[.pointer (some ⟨b,0,none⟩)] #[],.func (.func 102) #[.pointer (some ⟨b,0,none⟩)] #[],.func (.func 103) #[.pointer (some ⟨b,0,none⟩)] #[],.func (.func 104) #[.pointer (some ⟨b,0,none⟩)] #[],.func (.func 105) #[.pointer (some ⟨b,0,none⟩)] #[],.func (.func 106) #[.pointer (some ⟨b,0,none⟩)] #[]]
theorem lv_at (b:Nat):∀ n:Nat,n<6→(lvA b)[n]? = some (.func (.func (lvF n)) #[.pointer (some ⟨b,0,none⟩)] #[])
 | 0,_=>rfl
 | 1,_=>rfl
 | 2,_=>rfl
 | 3,_=>rfl
 | 4,_=>rfl
 | 5,_=>rfl
 | n+6,h=>by omega
theorem lv_size (b:Nat):(Tryz.prog.info? 151).map (·.size)=some (lvA b).size:=by kernel_rfl
theorem lv_one (b:Nat):∀ v∈(lvA b).toList,v.oneCell'=true:=by
 intro v hv
 simp only [lvA,List.mem_cons,List.not_mem_nil,or_false] at hv
 rcases hv with rfl | rfl | rfl | rfl | rfl | rfl <;> rfl
theorem below_setRow {B:Nat} {a w:World} {g:Nat} (h:Below B a w) (hg:B≤g) (cs:Array Value):Below B a (w.setRow g cs) :=
 ⟨h.os,h.tape,h.output,by simpa using h.size,fun j hj=>by rw [Go.setRow_other w g j cs (by omega)];exact h.block j hj⟩
set_option maxRecDepth 100000 in
set_option maxHeartbeats 1600000 in
theorem level_enter (b n:Nat) (hn:n<6) (w:World) (R:Ending→World→Prop) (hR:∀ e w',R e w'→∃ c,e = .returned (.int .i64 c)) (hc:∀ w',Below w.heap.size w w'→Calls Tryz.prog (lvF n) #[.pointer (some ⟨b,0,none⟩)] w' R) :
 Calls Tryz.prog 74 #[.pointer (some ⟨b,0,none⟩),.int .i64 (n:Int)] w R:=by
 have HC:=Lib.hid hc;clear hc
 have HRR:=Lib.hid hR;clear hR
 have hca:=e_lv n hn
 have HAT:=Lib.hid (lv_at b n hn)
 have hi1:(0:Int)≤(n:Int):=by omega
 have hi2:(n:Int)<6:=by omega
 obtain ⟨F,hF⟩:∃ F,lvF n=F:=⟨_,rfl⟩
 rw [hF] at HC hca HAT
 have hh:(w.alloc (.cells #[.nilFunc,.nilFunc,.nilFunc,.nilFunc,.nilFunc,.nilFunc] 151)).heap[w.heap.size]? = some (.cells #[.nilFunc,.nilFunc,.nilFunc,.nilFunc,.nilFunc,.nilFunc] 151):=(Go.MapKept.heap_alloc w _).1
 have HB:=Lib.hid (below_setRow ((Below.refl w.heap.size w).alloc (Nat.le_refl _) (.cells #[.nilFunc,.nilFunc,.nilFunc,.nilFunc,.nilFunc,.nilFunc] 151)) (Nat.le_refl _) (lvA b))
 have HW:=Lib.hid (setRow_heap _ w.heap.size _ (lvA b) _ _ hh)
 have HH:=Lib.hid hh
 clear hF hh
 go_enter Tryz.func74,Tryz.ntmps74
 go_upto_region 2 with ((with_reducible refine wpList_store_row (op:=⟨none,.store 151 (.tmp 5) (.tmp 18),_,_,_,_⟩) rfl 151 (.tmp 5) (.tmp 18) rfl w.heap.size 151 _ (lvA b) ?_ ?_ HH.out ?_ (lv_size b) (lv_one b) ?_);rfl;rfl;rfl)
 generalize (w.alloc (.cells #[.nilFunc,.nilFunc,.nilFunc,.nilFunc,.nilFunc,.nilFunc] 151)).setRow w.heap.size (lvA b)=w1 at HB HW ⊢
 have hce:w1.cell? ⟨w.heap.size,n,none⟩=some (.func (.func F) #[.pointer (some ⟨b,0,none⟩)] #[]):=by
  rw [cell_of_row w1 w.heap.size n _ _ _ HW.out];exact HAT.out
 go_wp2_with fail
 refine (HC.out w1 HB.out).mono ?_
 intro e w2 hr
 obtain ⟨c,rfl⟩:=HRR.out e w2 hr
 have HR:=Lib.hid hr;clear hr
 go_wp2_with fail
 exact HR.out
set_option maxRecDepth 100000 in
set_option maxHeartbeats 400000 in
theorem expr_enter (b:Nat) (w:World) (R:Ending→World→Prop) (hR:∀ e w',R e w'→∃ c,e = .returned (.int .i64 c)) (hc:Calls Tryz.prog 132 #[.pointer (some ⟨b,0,none⟩),.int .i64 0] w R) :
 Calls Tryz.prog 101 #[.pointer (some ⟨b,0,none⟩)] w R:=by
 have HC:=Lib.hid hc;have HRR:=Lib.hid hR;clear hc hR
 go_enter Tryz.func101,Tryz.ntmps101
 go_wp2_with (go_at_call 132;((with_reducible refine HC.out.mono ?_);intro e w2 hr;obtain ⟨c,rfl⟩:=HRR.out e w2 hr;have HR:=Lib.hid hr;clear hr))
 exact HR.out
set_option maxRecDepth 100000 in
set_option maxHeartbeats 400000 in
theorem cat_enter (b:Nat) (w:World) (R:Ending→World→Prop) (hR:∀ e w',R e w'→∃ c,e = .returned (.int .i64 c)) (hc:Calls Tryz.prog 132 #[.pointer (some ⟨b,0,none⟩),.int .i64 1] w R) :
 Calls Tryz.prog 102 #[.pointer (some ⟨b,0,none⟩)] w R:=by
 have HC:=Lib.hid hc;have HRR:=Lib.hid hR;clear hc hR
 go_enter Tryz.func102,Tryz.ntmps102
 go_wp2_with (go_at_call 132;((with_reducible refine HC.out.mono ?_);intro e w2 hr;obtain ⟨c,rfl⟩:=HRR.out e w2 hr;have HR:=Lib.hid hr;clear hr))
 exact HR.out
set_option maxRecDepth 100000 in
set_option maxHeartbeats 400000 in
theorem sum_enter (b:Nat) (w:World) (R:Ending→World→Prop) (hR:∀ e w',R e w'→∃ c,e = .returned (.int .i64 c)) (hc:Calls Tryz.prog 132 #[.pointer (some ⟨b,0,none⟩),.int .i64 2] w R) :
 Calls Tryz.prog 103 #[.pointer (some ⟨b,0,none⟩)] w R:=by
 have HC:=Lib.hid hc;have HRR:=Lib.hid hR;clear hc hR
 go_enter Tryz.func103,Tryz.ntmps103
 go_wp2_with (go_at_call 132;((with_reducible refine HC.out.mono ?_);intro e w2 hr;obtain ⟨c,rfl⟩:=HRR.out e w2 hr;have HR:=Lib.hid hr;clear hr))
 exact HR.out
set_option maxRecDepth 100000 in
set_option maxHeartbeats 400000 in
theorem term_enter (b:Nat) (w:World) (R:Ending→World→Prop) (hR:∀ e w',R e w'→∃ c,e = .returned (.int .i64 c)) (hc:Calls Tryz.prog 132 #[.pointer (some ⟨b,0,none⟩),.int .i64 3] w R) :
 Calls Tryz.prog 104 #[.pointer (some ⟨b,0,none⟩)] w R:=by
 have HC:=Lib.hid hc;have HRR:=Lib.hid hR;clear hc hR
 go_enter Tryz.func104,Tryz.ntmps104
 go_wp2_with (go_at_call 132;((with_reducible refine HC.out.mono ?_);intro e w2 hr;obtain ⟨c,rfl⟩:=HRR.out e w2 hr;have HR:=Lib.hid hr;clear hr))
 exact HR.out
theorem lv0:lvF 0=101:=rfl
theorem lv1:lvF 1=102:=rfl
theorem lv2:lvF 2=103:=rfl
theorem lv3:lvF 3=104:=rfl
theorem lv4:lvF 4=105:=rfl
theorem lv5:lvF 5=106:=rfl
theorem level_row (b:Nat) (w:World) (R:Ending→World→Prop) (hR:∀ e w',R e w'→∃ c,e = .returned (.int .i64 c)) (n:Nat) (hn:n≤3) (hc:∀ w',Below w.heap.size w w'→Calls Tryz.prog 132 #[.pointer (some ⟨b,0,none⟩),.int .i64 (n:Int)] w' R) :
 Calls Tryz.prog 74 #[.pointer (some ⟨b,0,none⟩),.int .i64 (n:Int)] w R:=by
 refine level_enter b n (by omega) w R hR fun w' hb => ?_
 have h:=hc w' hb
 obtain ⟨i,hi⟩:∃ i:Int,(n:Int)=i:=⟨_,rfl⟩
 rw [hi] at h
 rcases (show n=0∨n=1∨n=2∨n=3 by omega) with e | e | e | e
 · rw [e,lv0];rw [show i=0 by omega] at h;exact expr_enter b w' R hR h
 · rw [e,lv1];rw [show i=1 by omega] at h;exact cat_enter b w' R hR h
 · rw [e,lv2];rw [show i=2 by omega] at h;exact sum_enter b w' R hR h
 · rw [e,lv3];rw [show i=3 by omega] at h;exact term_enter b w' R hR h
theorem Elem.nod:∃ n,n≤200∧Elem Tryz.prog 65 140 14 n:=⟨136,by omega,Tryz.underlying65,⟨.agg #[.int .i64 0,.int .i64 0,.string ⟨#[]⟩,.string ⟨#[]⟩,.int .i64 0,.int .i64 0,.bool false,.bool false,.string ⟨#[]⟩,.int .i64 0,.int .i64 0,.bool false,.bool false,.slice none 0 0],by kernel_rfl,rfl⟩,by decide⟩
theorem nod_size:(Tryz.prog.info? 140).map (·.size)=some 14:=by kernel_rfl
def NdAt (w:World) (b:Nat) (n:Nd) (k:Value):Prop:=w.heap[b]? = some (.cells (nodA n k) 140)
theorem NdAt.new (w:World) (n:Nd) (k:Value):NdAt (w.alloc (.cells (nodA n k) 140)) w.heap.size n k:=(Go.MapKept.heap_alloc w _).1
theorem NdAt.below {w w':World} {B b:Nat} {n:Nd} {k:Value} (h:NdAt w b n k) (hb:Below B w w') (hB:b<B):NdAt w' b n k:=by unfold NdAt;rw [hb.block b hB];exact h
theorem NdAt.lt {w:World} {b:Nat} {n:Nd} {k:Value} (h:NdAt w b n k):b<w.heap.size:=(Array.getElem?_eq_some_iff.1 h).1
theorem NdAt.cells {w:World} {b:Nat} {n:Nd} {k:Value} (h:NdAt w b n k):w.cell? ⟨b,0,none⟩=some (.int .i64 n.kind)∧w.cell? ⟨b,1,none⟩=some (.int .i64 n.num)∧w.cell? ⟨b,2,none⟩=some (.string n.text)∧w.cell? ⟨b,3,none⟩=some (.string n.ref.sh)∧w.cell? ⟨b,4,none⟩=some (.int .i64 n.ref.c)∧w.cell? ⟨b,5,none⟩=some (.int .i64 n.ref.r)∧w.cell? ⟨b,6,none⟩=some (.bool n.ref.ac)∧w.cell? ⟨b,7,none⟩=some (.bool n.ref.ar)∧w.cell? ⟨b,8,none⟩=some (.string n.to.sh)∧w.cell? ⟨b,9,none⟩=some (.int .i64 n.to.c)∧w.cell? ⟨b,10,none⟩=some (.int .i64 n.to.r)∧w.cell? ⟨b,11,none⟩=some (.bool n.to.ac)∧w.cell? ⟨b,12,none⟩=some (.bool n.to.ar)∧w.cell? ⟨b,13,none⟩=some k :=
 ⟨by rw [cell_of_row w b 0 _ _ _ h];rfl,by rw [cell_of_row w b 1 _ _ _ h];rfl,by rw [cell_of_row w b 2 _ _ _ h];rfl,by rw [cell_of_row w b 3 _ _ _ h];rfl,by rw [cell_of_row w b 4 _ _ _ h];rfl,by rw [cell_of_row w b 5 _ _ _ h];rfl,by rw [cell_of_row w b 6 _ _ _ h];rfl,by rw [cell_of_row w b 7 _ _ _ h];rfl,by rw [cell_of_row w b 8 _ _ _ h];rfl,by rw [cell_of_row w b 9 _ _ _ h];rfl,by rw [cell_of_row w b 10 _ _ _ h];rfl,by rw [cell_of_row w b 11 _ _ _ h];rfl,by rw [cell_of_row w b 12 _ _ _ h];rfl,by rw [cell_of_row w b 13 _ _ _ h];rfl⟩
theorem Ps.row {w:World} {b:Nat} {tv:Value} {ts:List Tk} {p deep:Nat} {nv:Value} {vs:List Nv} (h:Ps w b tv ts p deep nv vs):∀ g,nv.ownBlock=some g→b<g∧NodeRow w g:=by
 intro g e
 rcases h.nodes.1.2 with ⟨h1,_⟩ | ⟨g',cap,cur,h1,h2,h3,_⟩
 · rw [h1] at e;cases e
 · rw [h1] at e;injection e with e
   have e:g'=g:=e
   subst e
   exact ⟨by omega,cur,_,h3⟩
theorem Ps.grown3 {w w':World} {b:Nat} {tv:Value} {ts:List Tk} {p deep:Nat} {nv:Value} {vs:List Nv} (h:Ps w b tv ts p deep nv vs) (hg:w.grownBy w' nv.ownBlock):w'.cell? ⟨b,3,none⟩=some nv∧w'.frozen? ⟨b,3,none⟩=false:=by
 have hbb:w'.heap[b]? = w.heap[b]? := hg.block b h.blt (by intro e;have:=(h.row b e.symm).1;omega)
 have hc:=hbb.trans h.cell
 exact ⟨by rw [cell_of_row w' b 3 _ _ _ hc];rfl,frozen_of_row w' b 3 _ _ hc⟩
theorem Ps.grow {w w':World} {b:Nat} {tv:Value} {ts:List Tk} {p deep:Nat} {nv nv':Value} {vs:List Nv} {v:Nv} (h:Ps w b tv ts p deep nv vs) (hg:w.grownBy w' nv.ownBlock) (ho:Own encNv 140 w' (b+1) nv' (vs++[v]))
 (hk:Own (encInt .i64) 3 w (b+1) v.kv v.n.kids) (hc:vs.length+1≤p):Ps (w'.setCell ⟨b,3,none⟩ nv') b tv ts p deep nv' (vs++[v])∧Fr w (w'.setCell ⟨b,3,none⟩ nv') b:=by
 have hnv:=h.row
 have hfr:Fr w w' b:=(Fr.refl w b).row hg (fun g e=>⟨(hnv g e).1,.inr (hnv g e).2⟩)
 have hbb:w'.heap[b]? = w.heap[b]? := hg.block b h.blt (by intro e;have:=(hnv b e.symm).1;omega)
 refine ⟨⟨?_, ?_,⟨ho.keep fun j hj _ _=>Below.heap_setCell _ _ _ _ (by show j≠b;omega), ?_⟩, ?_,h.lt,h.low,h.fit,h.few,by rw [List.length_append,List.length_singleton];exact hc,h.nest⟩,hfr.setCell _ _⟩
 · rw [heap_setCell_same w' b 3 _ _ _ (hbb.trans h.cell)];rfl
 · have h1:TokV w' b tv ts:=by
    obtain ⟨g,cap,h1,h2,h3⟩:=h.toks
    exact ⟨g,cap,h1,h2,h3.keep fun j _ hj e=>hfr.block j hj (by rw [h1] at e;injection e with e;have:g=j:=e;omega) (.inl (by rw [h1] at e;injection e with e;have:g=j:=e;omega))⟩
   exact h1.set _ _
 · intro u hu
   have h1:Own (encInt .i64) 3 w (b+1) u.kv u.n.kids:=by
    rcases List.mem_append.1 hu with hu | hu
    · exact h.nodes.2 u hu
    · rw [List.mem_singleton.1 hu];exact hk
   exact (h1.fr hfr (by omega) (by decide)).keep fun j hj _ _=>Below.heap_setCell _ _ _ _ (by show j≠b;omega)
 · have h1:OpV w':=h.ops.keep (hfr.block _ h.ops.lt (by have:=h.low;omega) (.inl (by have:=h.low;omega)))
   exact h1.set h.low _ _
set_option maxRecDepth 100000 in
set_option maxHeartbeats 2000000 in
theorem add_any {w:World} {b:Nat} {tv:Value} {ts:List Tk} {p deep:Nat} {nv:Value} {vs:List Nv} (h:Ps w b tv ts p deep nv vs) (v:Nv) (hk:Own (encInt .i64) 3 w (b+1) v.kv v.n.kids) (hc:vs.length+1≤p) (k:Value) (hkv:v.kv=k) (n:Nd) (hn:v.n=n) :
 Calls Tryz.prog 135 #[.pointer (some ⟨b,0,none⟩),.agg #[.int .i64 n.kind,.int .i64 n.num,.string n.text,.string n.ref.sh,.int .i64 n.ref.c,.int .i64 n.ref.r,.bool n.ref.ac,.bool n.ref.ar,.string n.to.sh,.int .i64 n.to.c,.int .i64 n.to.r,.bool n.to.ac,.bool n.to.ar,k]] w fun e w'=>Fr w w' b∧e = .returned (.tuple #[])∧∃ nv',Ps w' b tv ts p deep nv' (vs++[v]):=by
 obtain ⟨eb,hEB,EL⟩:=Elem.nod
 have hal:Below w.heap.size w (w.alloc (.cells #[.int .i64 n.kind,.int .i64 n.num,.string n.text,.string n.ref.sh,.int .i64 n.ref.c,.int .i64 n.ref.r,.bool n.ref.ac,.bool n.ref.ar,.string n.to.sh,.int .i64 n.to.c,.int .i64 n.to.r,.bool n.to.ac,.bool n.to.ar,k] 140)):=(Below.refl _ _).alloc (Nat.le_refl _) _
 have HP1:=Lib.hid (h.below hal)
 have HK1:=Lib.hid (hk.alloc (.cells #[.int .i64 n.kind,.int .i64 n.num,.string n.text,.string n.ref.sh,.int .i64 n.ref.c,.int .i64 n.ref.r,.bool n.ref.ac,.bool n.ref.ar,.string n.to.sh,.int .i64 n.to.c,.int .i64 n.to.r,.bool n.to.ac,.bool n.to.ar,k] 140))
 have hx:NdAt (w.alloc (.cells #[.int .i64 n.kind,.int .i64 n.num,.string n.text,.string n.ref.sh,.int .i64 n.ref.c,.int .i64 n.ref.r,.bool n.ref.ac,.bool n.ref.ar,.string n.to.sh,.int .i64 n.to.c,.int .i64 n.to.r,.bool n.to.ac,.bool n.to.ar,k] 140)) w.heap.size n k:=NdAt.new w n k
 have h2:=h.few
 have h3:=h.lt
 have hbl:=h.blt
 have hsz:(w.alloc (.cells #[.int .i64 n.kind,.int .i64 n.num,.string n.text,.string n.ref.sh,.int .i64 n.ref.c,.int .i64 n.ref.r,.bool n.ref.ac,.bool n.ref.ar,.string n.to.sh,.int .i64 n.to.c,.int .i64 n.to.r,.bool n.to.ac,.bool n.to.ar,k] 140)).heap.size=w.heap.size+1:=by simp
 have HEL:=Lib.hid EL
 have HAL:=Lib.hid hal
 clear h hk EL hal
 go_enter Tryz.func135,Tryz.ntmps135
 go_wp2_with fail
 generalize w.alloc (.cells #[.int .i64 n.kind,.int .i64 n.num,.string n.text,.string n.ref.sh,.int .i64 n.ref.c,.int .i64 n.ref.r,.bool n.ref.ac,.bool n.ref.ar,.string n.to.sh,.int .i64 n.to.c,.int .i64 n.to.r,.bool n.to.ac,.bool n.to.ar,k] 140)=w1 at HP1 HK1 HAL hx hsz ⊢
 obtain ⟨x0,x1,x2,x3,x4,x5,x6,x7,x8,x9,x10,x11,x12,x13⟩:=hx.cells
 obtain ⟨c0,c1,c2,c3⟩:=HP1.out.facts
 have f3:=HP1.out.frozen 3
 clear hx c0 c1 c2
 have HPQ:=Lib.hid (HP1.out.drew.below ((Below.refl _ _).alloc (Nat.le_refl _) (.cells #[.int .i64 n.kind,.int .i64 n.num,.string n.text,.string n.ref.sh,.int .i64 n.ref.c,.int .i64 n.ref.r,.bool n.ref.ac,.bool n.ref.ar,.string n.to.sh,.int .i64 n.to.c,.int .i64 n.to.r,.bool n.to.ac,.bool n.to.ar,k] 140)))
 go_region_law (refine step_app_at HEL.out encNv rfl (.tmp 8) (.tmp 10) rfl (b+1) nv vs ?_ (HP1.out.nodes.1.drew.alloc _) ⟨w1.heap.size,0,none⟩ 1 1 [v] ?_ rfl ?_ ?_ ?_ ?_ ?_;go_simp;go_simp;(subst hkv;subst hn;exact cells_new (w:=w1.drew) _ _ _ rfl);exact Nat.le_trans (Nat.mul_le_mul_left _ hEB) (by omega);(unfold maxLen;omega);(simp <;> omega);intro v' wz h1 h2 h4;obtain ⟨g1,cap1,rfl,hg0,hg1,hg2,hg3⟩:=Own.some h1 (by simp);obtain ⟨d1,d2⟩:=HPQ.out.grown3 h2;have HO:=Lib.hid h1;have HG:=Lib.hid h2;clear h1 h2 h4)
 all_goals
  go_wp2_with fail
  obtain ⟨q1,q2⟩:=HPQ.out.grow HG.out HO.out (HK1.out.drew.alloc _) hc
  rw [List.length_append,List.length_singleton] at q1 q2
  have hF:=(((Fr.of b HAL.out).drew).below ((Below.refl _ _).alloc (Nat.le_refl _) (.cells #[.int .i64 n.kind,.int .i64 n.num,.string n.text,.string n.ref.sh,.int .i64 n.ref.c,.int .i64 n.ref.r,.bool n.ref.ac,.bool n.ref.ar,.string n.to.sh,.int .i64 n.to.c,.int .i64 n.to.r,.bool n.to.ac,.bool n.to.ar,k] 140))).trans q2
  first
   | exact bodyPost_ret (results_none rfl _ _ _) rfl ⟨hF,rfl,_,q1⟩
   | (go_end0;exact ⟨hF,rfl,_,q1⟩)
end Go.Proofs.YtdphoaabaajonaaGreatDoor
