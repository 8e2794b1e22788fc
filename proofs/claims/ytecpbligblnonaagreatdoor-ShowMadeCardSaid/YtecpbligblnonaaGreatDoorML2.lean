/-
 Texts of layers, put together.
-/
import Derived.Test.YtecpbligblnonaaGreatDoorML1
import Derived.Shelf.Strings.Builder1
import Derived.Shelf.Strings.Builder2
import Derived.Shelf.Small.Strs
import Derived.Shelf.Strconv.Atoi
import Derived.Shelf.Strconv.Itoa0
import Derived.Shelf.Strconv.Itoa1
import Derived.Shelf.LaysM
import Derived.Shelf.Strconv.Itoa2
import Derived.Shelf.Strconv.Itoa3
import Derived.Shelf.Strconv.AtoiErrFast
import Derived.Shelf.Strconv.ParseIntEmpty
import Derived.Shelf.Strconv.AtoiFail
import Derived.Shelf.Strconv.Clone
import Derived.Shelf.Strconv.SyntaxError
import Derived.Shelf.LaysC
import Derived.Shelf.Strconv.ToError
import Derived.Shelf.Strconv.Lower
import Derived.Shelf.Strconv.ParseUint10
import Derived.Shelf.Strconv.ParseUint10Empty
import Derived.Shelf.Strconv.ParseUint10Any
import Derived.Shelf.Strconv.ParseInt10
import Derived.Shelf.Strconv.AtoiLong
import Derived.Shelf.Strconv.AtoiInnerAll
import Derived.Shelf.Strconv.RangeError
import Derived.Shelf.Strconv.ToErrorRange
import Derived.Shelf.Strconv.AtoiAll
import Derived.Shelf.Strconv.ErrVarAll
import Derived.Shelf.Strings.Search1
import Derived.Shelf.Strings.Search2
import Derived.Shelf.Strings.Search3
import Derived.Shelf.Strings.Count
import Derived.Shelf.Strings.Shaped
import Derived.Shelf.Strings.Prefix
import Derived.Shelf.Strings.Split
import Derived.Shelf.Strings.Replace
import Derived.Shelf.Unicode.DecodeSlow
import Derived.Test.YtecpbligblnonaaGreatDoorProg
namespace Go.Proofs.YtecpbligblnonaaGreatDoor
open Go.RowKit
theorem quoF_dblB:∀ (l b:List Int),(∀ x∈l,¬ x<32)→(∀ x,b.head? = some x→x≠34)→quoF (dblL l++34 :: b)=some (l,(dblL l).length+1)
 | [],b,_,hb=>by
   show quoF (34 :: b)=_
   rw [quoF_cons,if_neg (by omega),if_neg (by omega)]
   cases b with
   | nil=>rfl
   | cons y m =>
     have:=hb y rfl
     simp only [this,if_false]
     rfl
 | x :: l,b,h,hb=>by
   have ih:=quoF_dblB l b (fun y hy=>h y (by simp [hy])) hb
   have hx:=h x (by simp)
   by_cases h34:x=34
   · subst h34
     show quoF (34 :: 34 :: (dblL l++34 :: b))=_
     rw [quoF_cons,if_neg (by omega),if_neg (by omega)]
     simp only [if_true]
     rw [ih]
     rfl
   · have e:dblL (x :: l)=x :: dblL l:=by show (if x=34 then [34,34] else [x])++dblL l=_;rw [if_neg h34];rfl
     rw [e,List.cons_append,quoF_cons,if_neg hx,if_pos h34,ih]
     rfl
def Behind (t:Tk) (b:List Int):Prop :=
 (t.kind≠5→∀ x,b.head? = some x→isWord x=false∧x≠34)∧(t.kind=5→(t.text=⟨#[60]⟩∨t.text=⟨#[62]⟩)→∀ x,b.head? = some x→x≠61∧x≠62)
theorem word_no {x:Int} (h:isWord x=false):isNum x=false:=by
 cases c:isNum x with
 | false=>rfl
 | true=>rw [word_num c] at h;cases h
theorem tok_behind {a b:List Int} {t:Tk} (hba:Bytes a) (hq:tokT (a++[32])=some (t,a.length)) (hb:Behind t b):tokT (a++b)=some (t,a.length):=by
 cases a with
 | nil =>
   have:=(tokT_le _ _ _ hq).1
   simp at this
 | cons x a =>
   have hsp:∀ (p:Int→Bool),p 32=false→((x :: (a++[32])).takeWhile p).length=(x :: a).length→(∀ y,b.head? = some y→p y=false)→(x :: (a++[32])).takeWhile p=x :: a∧(x :: (a++b)).takeWhile p=x :: a:=by
    intro p hp hl hh
    obtain ⟨e1,_⟩:=span_alike (a:=x :: a) (b:=[32]) (b':=[32]) hp (.inr rfl) hl
    refine ⟨e1, ?_⟩
    have hall:∀ y∈x :: a,p y=true:=fun y hy=>take_all p (x :: (a++[32])) y (by rw [show (x :: (a++[32])).takeWhile p=x :: a from e1];exact hy)
    exact take_part p (x :: a) b hall hh
   rw [List.cons_append,tokT_cons] at hq ⊢
   by_cases h1:isNum x=true
   · rw [if_pos h1] at hq ⊢
     unfold numT at hq
     split at hq
     · cases hq
     · rename_i hn
       simp only [Option.some.injEq,Prod.mk.injEq] at hq
       have hk:t.kind≠5:=by rw [← hq.1];simp
       obtain ⟨e1,e2⟩:=hsp isNum (by decide) hq.2 (fun y hy=>word_no (hb.1 hk y hy).1)
       unfold numT
       rw [e2]
       rw [e1] at hn hq
       rw [if_neg (show ¬(1<(x :: a).length∧(x :: (a++b)).head? = some 48∨9223372036854775807<valL (x :: a)) from hn)]
       exact congrArg (fun u=>some (u,(x :: a).length)) hq.1
   · rw [if_neg h1] at hq ⊢
     by_cases h2:x=34
     · rw [if_pos h2] at hq ⊢
       unfold quoT at hq ⊢
       cases hr:quoF (a++[32]) with
       | none=>rw [hr] at hq;cases hq
       | some q =>
         rw [hr] at hq
         simp only [Option.map_some,Option.some.injEq,Prod.mk.injEq,List.length_cons] at hq
         have hk:t.kind≠5:=by rw [← hq.1];simp
         have hb2:Bytes (a++[32]):=by
          intro y hy
          rcases List.mem_append.1 hy with hy | hy
          · exact hba y (by simp [hy])
          · simp at hy;omega
         have g1:=(quoF_good _ _ q.1 q.2 (Nat.le_refl _) hb2 hr).2
         have g2:=quoF_text _ _ q.1 q.2 (Nat.le_refl _) hr
         have hl:q.2=a.length:=by omega
         rw [hl,List.take_left] at g2
         have e:a++b=dblL q.1++34 :: b:=by rw [g2];simp
         have e2:(dblL q.1).length+1=a.length:=by rw [g2];simp
         rw [e,quoF_dblB q.1 b g1 (fun y hy=>(hb.1 hk y hy).2)]
         simp only [Option.map_some,List.length_cons,Option.some.injEq,Prod.mk.injEq]
         exact ⟨hq.1,by omega⟩
     · rw [if_neg h2] at hq ⊢
       by_cases h3:x=35
       · rw [if_pos h3] at hq ⊢
         unfold deadT at hq ⊢
         by_cases h5:(x :: (a++[32])).take 5=[35,82,69,70,33]
         · rw [if_pos h5] at hq
           simp only [Option.some.injEq,Prod.mk.injEq] at hq
           have e1:(x :: (a++[32])).take 5=x :: a:=by rw [hq.2, ← List.cons_append];exact take_len _ _
           have e2:(x :: (a++b)).take 5=x :: a:=by rw [hq.2, ← List.cons_append];exact take_len _ _
           rw [e1] at h5
           rw [e2,if_pos h5,hq.1]
           exact congrArg (fun k=>some (t,k)) hq.2
         · rw [if_neg h5] at hq;cases hq
       · rw [if_neg h3] at hq ⊢
         by_cases h4:isLet x=true∨x=36
         · rw [if_pos h4] at hq ⊢
           have hn:((x :: (a++[32])).takeWhile isWord).length=(x :: a).length∧t.kind≠5:=by
            unfold wordT at hq
            split at hq
            · simp only [Option.some.injEq,Prod.mk.injEq] at hq;exact ⟨hq.2,by rw [← hq.1];simp⟩
            · split at hq
              · simp only [Option.some.injEq,Prod.mk.injEq] at hq;exact ⟨hq.2,by rw [← hq.1];simp⟩
              · cases hq
           obtain ⟨e1,e2⟩:=hsp isWord (by decide) hn.1 (fun y hy=>(hb.1 hn.2 y hy).1)
           rw [← hq]
           unfold wordT
           rw [e1,e2]
         · rw [if_neg h4] at hq ⊢
           unfold signT at hq ⊢
           by_cases h5:signN (x :: (a++[32]))=0
           · rw [if_pos h5] at hq;cases hq
           · rw [if_neg h5] at hq
             simp only [Option.some.injEq,Prod.mk.injEq] at hq
             have e1:(x :: (a++[32])).take (x :: a).length=x :: a:=by rw [← List.cons_append];exact take_len _ _
             have e2:(x :: (a++b)).take (x :: a).length=x :: a:=by rw [← List.cons_append];exact take_len _ _
             have e:signN (x :: (a++b))=signN (x :: (a++[32])):=by
              cases a with
              | nil =>
                have hs:signN (x :: [32])=1:=hq.2
                have ht:t.text=strOfNums [x]:=by
                 rw [← hq.1]
                 show strOfNums (List.take (signN (x :: [32])) (x :: [32]))=_
                 rw [hs];rfl
                have hk:t.kind=5:=by rw [← hq.1]
                have h6:¬ ((x=60∧(b.head? = some 62∨b.head? = some 61))∨(x=62∧b.head? = some 61)):=by
                 rintro (⟨rfl,h | h⟩ | ⟨rfl,h⟩)
                 · exact (hb.2 hk (.inl ht) _ h).2 rfl
                 · exact (hb.2 hk (.inl ht) _ h).1 rfl
                 · exact (hb.2 hk (.inr ht) _ h).1 rfl
                show signN (x :: b)=signN (x :: [32])
                have h7:¬ ((x=60∧(([32]:List Int).head? = some 62∨([32]:List Int).head? = some 61))∨(x=62∧([32]:List Int).head? = some 61)):=by simp
                rw [signN_cons,signN_cons,if_neg h6,if_neg h7]
              | cons y a=>rw [signN_cons,signN_cons];rfl
             rw [e,if_neg h5, ← hq.1,hq.2,e1,e2]
theorem tok_first {x:Int} {l:List Int} {t:Tk} {n:Nat} (h:tokT (x :: l)=some (t,n)):x≠32∧(t.kind=5→isWord x=false∧x≠34)∧(t.kind≠5→x≠61∧x≠62):=by
 rw [tokT_cons] at h
 by_cases h1:isNum x=true
 · rw [if_pos h1] at h
   have hx:=num_bd h1
   unfold numT at h
   split at h
   · cases h
   · simp only [Option.some.injEq,Prod.mk.injEq] at h
     refine ⟨by omega,fun h5 => ?_,fun _=>by omega⟩
     rw [← h.1] at h5;simp at h5
 · rw [if_neg h1] at h
   by_cases h2:x=34
   · rw [if_pos h2] at h
     unfold quoT at h
     cases hq:quoF l with
     | none=>rw [hq] at h;cases h
     | some q =>
       rw [hq] at h
       simp only [Option.map_some,Option.some.injEq,Prod.mk.injEq] at h
       refine ⟨by omega,fun h5 => ?_,fun _=>by omega⟩
       rw [← h.1] at h5;simp at h5
   · rw [if_neg h2] at h
     by_cases h3:x=35
     · rw [if_pos h3] at h
       unfold deadT at h
       split at h
       · simp only [Option.some.injEq,Prod.mk.injEq] at h
         refine ⟨by omega,fun h5 => ?_,fun _=>by omega⟩
         rw [← h.1] at h5;simp at h5
       · cases h
     · rw [if_neg h3] at h
       by_cases h4:isLet x=true∨x=36
       · rw [if_pos h4] at h
         have hx:x≠32∧x≠61∧x≠62:=by
          rcases h4 with h4 | h4
          · unfold isLet at h4;rw [decide_eq_true_iff] at h4;omega
          · omega
         refine ⟨hx.1,fun h5 => ?_,fun _=>hx.2⟩
         unfold wordT at h
         split at h
         · simp only [Option.some.injEq,Prod.mk.injEq] at h
           rw [← h.1] at h5;simp at h5
         · split at h
           · simp only [Option.some.injEq,Prod.mk.injEq] at h
             rw [← h.1] at h5;simp at h5
           · cases h
       · rw [if_neg h4] at h
         unfold signT at h
         split at h
         · cases h
         · rename_i h5
           simp only [Option.some.injEq,Prod.mk.injEq] at h
           rw [signN_cons] at h5
           have hx:x≠32∧x≠33:=by
            refine ⟨?_, ?_⟩
            · rintro rfl;exact h5 (by rw [if_neg (by omega),if_neg (by omega)])
            · rintro rfl;exact h5 (by rw [if_neg (by omega),if_neg (by omega)])
           refine ⟨hx.1,fun _=>⟨?_,h2⟩,fun h6=>absurd (show t.kind=5 by rw [← h.1]) h6⟩
           unfold isWord
           have g1:isLet x=false:=by cases c:isLet x with
            | false=>rfl
            | true=>exact absurd (.inl c) h4
           have g2:isNum x=false:=by cases c:isNum x with
            | false=>rfl
            | true=>exact absurd c h1
           rw [g1,g2]
           simp only [Bool.false_or]
           exact decide_eq_false (by rintro (h | h);exact h4 (.inr h);exact hx.2 h)
def Fs (t:Tk):Prop:=t.kind≠5∨t.text=⟨#[40]⟩∨t.text=⟨#[45]⟩
def Ls (t:Tk):Prop:=t.kind≠5∨t.text=⟨#[41]⟩
def Pr (t u:Tk):Prop:=(t.kind≠5→u.kind=5)∧(t.kind=5→(t.text=⟨#[60]⟩∨t.text=⟨#[62]⟩)→Fs u)
def Sep:List Tk→Prop
 | []=>True
 | t :: ts=>(∀ u,ts.head? = some u→Pr t u)∧Sep ts
theorem Sep.app:∀ {a b:List Tk},Sep a→Sep b→(∀ t u,a.getLast? = some t→b.head? = some u→Pr t u)→Sep (a++b)
 | [],_,_,h,_=>h
 | [t],b,_,h,hj=>⟨fun u hu=>hj t u rfl hu,h⟩
 | t :: t' :: a,b,g,h,hj=>⟨fun u hu=>g.1 u hu,Sep.app (a:=t' :: a) g.2 h (fun v u hv hu=>hj v u (by rw [← hv];rfl) hu)⟩
theorem ls_sign {t u:Tk} {s:ByteArray} (h:Ls t) (hu:IsS s u):Pr t u:=by
 refine ⟨fun _=>hu.1,fun h5 hs => ?_⟩
 rcases h with h | h
 · exact absurd h5 h
 · rw [h] at hs;exact absurd hs (by decide)
theorem sign_fs {t u:Tk} {s:ByteArray} (ht:IsS s t) (h:Fs u):Pr t u:=⟨fun h5=>absurd ht.1 h5,fun _ _=>h⟩
def Sq (ts:List Tk):Prop:=Sep ts∧(∃ t l,ts=t :: l∧Fs t)∧∃ l t,ts=l++[t]∧Ls t
theorem Sq.one {t:Tk} (h:t.kind≠5):Sq [t]:=⟨⟨fun u hu=>by simp at hu,trivial⟩,⟨t,[],rfl,.inl h⟩,[],t,rfl,.inl h⟩
theorem Sq.ahead {m:Tk} {s:ByteArray} (hm:IsS s m) (hf:Fs m) {a:List Tk} (h:Sq a):Sq (m :: a):=by
 obtain ⟨h1,⟨t,l,rfl,h2⟩,l',t',e,h3⟩:=h
 exact ⟨⟨fun u hu=>by injection hu with hu;subst hu;exact sign_fs hm h2,h1⟩,⟨m,_,rfl,hf⟩,m :: l',t',by rw [e];rfl,h3⟩
theorem Sq.mid {a b:List Tk} {c:Tk} {s:ByteArray} (h:Sq a) (hc:IsS s c) (g:Sq b):Sq (a++c :: b):=by
 obtain ⟨h1,⟨t,l,rfl,h2⟩,l',t',e,h3⟩:=h
 obtain ⟨g1,⟨u,m,rfl,g2⟩,m',u',e',g3⟩:=g
 refine ⟨?_,⟨t,_,rfl,h2⟩,(t :: l)++c :: m',u',by rw [e'];simp,g3⟩
 refine Sep.app h1 ⟨fun v hv=>by injection hv with hv;subst hv;exact sign_fs hc g2,g1⟩ ?_
 intro v w hv hw
 injection hw with hw
 subst hw
 rw [e,List.getLast?_append] at hv
 simp at hv
 subst hv
 exact ls_sign h3 hc
theorem Sq.brk {a:List Tk} {l r:Tk} (h:Sq a) (hl:IsS ⟨#[40]⟩ l) (hr:IsS ⟨#[41]⟩ r):Sq (l :: (a++[r])):=by
 obtain ⟨h1,⟨t,k,rfl,h2⟩,l',t',e,h3⟩:=h
 refine ⟨⟨fun u hu=>by injection hu with hu;subst hu;exact sign_fs hl h2, ?_⟩,⟨l,_,rfl,.inr (.inl hl.2)⟩,l :: (t :: k),r,rfl,.inr hr.2⟩
 refine Sep.app h1 ⟨fun u hu=>by simp at hu,trivial⟩ ?_
 intro v w hv hw
 injection hw with hw
 subst hw
 rw [e,List.getLast?_append] at hv
 simp at hv
 subst hv
 exact ls_sign h3 hr
theorem Sq.wr {n rk d d':Nat} {ts ts':List Tk} (h:Sq ts) (hw:Wr n rk d ts d' ts'):Sq ts':=by
 rcases hw with ⟨_,rfl,_⟩ | ⟨_,_,l,r,hl,hr,rfl⟩
 · exact h
 · exact h.brk hl hr
theorem Sq.name {a:List Tk} {t l r:Tk} (ht:t.kind=3) (hl:IsS ⟨#[40]⟩ l) (hr:IsS ⟨#[41]⟩ r) (h:a=[]∨Sq a):Sq (t :: l :: (a++[r])):=by
 have hp:∀ u,(l :: (a++[r])).head? = some u→Pr t u:=by
  intro u hu;injection hu with hu;subst hu
  exact ⟨fun _=>hl.1,fun h=>by omega⟩
 rcases h with rfl | h
 · exact ⟨⟨hp,fun u hu=>by injection hu with hu;subst hu;exact ⟨fun h=>absurd hl.1 h,fun _ h=>by rw [hl.2] at h;exact absurd h (by decide)⟩,fun u hu=>by simp at hu,trivial⟩,⟨t,_,rfl,.inl (by omega)⟩,[t,l],r,rfl,.inr hr.2⟩
 · have g:=h.brk hl hr
   exact ⟨⟨hp,g.1⟩,⟨t,_,rfl,.inl (by omega)⟩,t :: l :: a,r,rfl,.inr hr.2⟩
theorem leaf_sq {ts:List Tk} {nd:Nd} (h:LeafS ts nd):Sq ts:=by
 cases h with
 | num t h=>exact Sq.one (by omega)
 | text t h=>exact Sq.one (by omega)
 | yes t h _=>exact Sq.one (by omega)
 | no t h _=>exact Sq.one (by omega)
 | dead t h=>exact Sq.one (by omega)
 | ref t h=>exact Sq.one (by omega)
 | range t c u h hc g _=>exact Sq.mid (a:=[t]) (b:=[u]) (Sq.one (by omega)) hc (Sq.one (by omega))
theorem sh_sq {b:Bool} {base:Nat} {ns:List Nd} {ks:List Int} {ts:List Tk} {rk d:Nat} (h:Sh b base ns ks ts rk d) :
 (b=false→Sq ts)∧(b=true→(ks=[]∧ts=[])∨(ks≠[]∧Sq ts)):=by
 induction h with
 | leaf base ts nd h=>exact ⟨fun _=>leaf_sq h,fun h=>by cases h⟩
 | neg base ns a ts rk d h m hm d' ts' hw ih=>exact ⟨fun _=>((ih.1 rfl).wr hw).ahead hm (.inr (.inr hm.2)),fun h=>by cases h⟩
 | op base o ho ns ms a b ts us rk1 rk2 d1 d2 h g s hs e1 e2 ts' us' hw gw ih ig=>exact ⟨fun _=>((ih.1 rfl).wr hw).mid hs ((ig.1 rfl).wr gw),fun h=>by cases h⟩
 | call base ns ks ts d h t l r ht h1 h2 hl hr ih =>
   refine ⟨fun _=>Sq.name ht hl hr ?_,fun h=>by cases h⟩
   rcases ih.2 rfl with ⟨_,h⟩ | ⟨_,h⟩
   · exact .inl h
   · exact .inr h
 | none base=>exact ⟨fun h=>(by cases h),fun _ => .inl ⟨rfl,rfl⟩⟩
 | one base ns a ts rk d h ih=>exact ⟨fun h=>(by cases h),fun _ => .inr ⟨by simp,ih.1 rfl⟩⟩
 | and base ns ms ks b ts us rk d1 d2 h hk c hc g ih ig =>
   refine ⟨fun h=>(by cases h),fun _ => .inr ⟨by simp, ?_⟩⟩
   rcases ih.2 rfl with ⟨h,_⟩ | ⟨_,h⟩
   · exact absurd h hk
   · exact h.mid hc (ig.1 rfl)
def txL (ts:List Tk):List Int:=ts.flatMap txK
theorem txL_cons (t:Tk) (ts:List Tk):txL (t :: ts)=txK t++txL ts:=rfl
theorem txL_len (ts:List Tk):(txL ts).length=lenK ts:=by
 induction ts with
 | nil=>rfl
 | cons t ts ih=>rw [txL_cons,List.length_append,ih];rfl
theorem tok_head {t:Tk} (h:Tok t):∃ x l,txK t=x :: l∧x≠32∧(t.kind=5→isWord x=false∧x≠34)∧(t.kind≠5→x≠61∧x≠62):=by
 have hn:=(tokT_le _ _ _ h.2.1).1
 cases e:txK t with
 | nil=>rw [e] at hn;simp at hn
 | cons x l =>
   have h2:=h.2.1
   rw [e,List.cons_append] at h2
   have g:=tok_first h2
   exact ⟨x,l,rfl,g.1,fun h=>g.2.1 h,fun h=>g.2.2 h⟩
theorem behind_all {t:Tk} {ts:List Tk} (hp:∀ u,ts.head? = some u→Pr t u) (hu:∀ u∈ts,Tok u):Behind t (txL ts):=by
 cases ts with
 | nil=>exact ⟨fun _ x hx=>by simp [txL] at hx,fun _ _ x hx=>by simp [txL] at hx⟩
 | cons u us =>
   obtain ⟨x,l,e,h1,h2,h3⟩:=tok_head (hu u (by simp))
   have hpr:=hp u rfl
   have hh:(txL (u :: us)).head? = some x:=by rw [txL_cons,e];rfl
   refine ⟨fun hk y hy => ?_,fun hk hs y hy => ?_⟩
   · rw [hh] at hy;injection hy with hy;subst hy;exact h2 (hpr.1 hk)
   · rw [hh] at hy;injection hy with hy;subst hy
     rcases hpr.2 hk hs with g | g | g
     · exact h3 g
     · by_cases h5:u.kind=5
       · have:txK u=[40]:=by unfold txK;simp only [h5,g];rfl
         rw [this] at e;injection e with e _;omega
       · exact h3 h5
     · by_cases h5:u.kind=5
       · have:txK u=[45]:=by unfold txK;simp only [h5,g];rfl
         rw [this] at e;injection e with e _;omega
       · exact h3 h5
theorem lex_sep:∀ (ts:List Tk) (p:Nat),Sep ts→(∀ t∈ts,Tok t)→∃ vs e,lexG p (txL ts)=some (vs++[e])∧e.kind=0∧vs.map (Tk.goto · 0)=ts.map (Tk.goto · 0)
 | [],p,_,_=>⟨[],_,lexG_nil p,rfl,rfl⟩
 | t :: ts,p,hs,ht=>by
   have h1:=ht t (by simp)
   have h2:=h1.2.2
   obtain ⟨vs,e,g1,g2,g3⟩:=lex_sep ts (p+(txK t).length) hs.2 (fun u hu=>ht u (by simp [hu]))
   obtain ⟨x,l,hx,hx2,_⟩:=tok_head h1
   have hb:Behind t (txL ts):=behind_all hs.1 (fun u hu=>ht u (by simp [hu]))
   have hq:=tok_behind (t:=t.goto 0) h2 h1.2.1 hb
   refine ⟨(t.goto 0).goto p :: vs,e, ?_,g2,by rw [List.map_cons,List.map_cons,g3];rfl⟩
   rw [txL_cons,lexG_app p (txK t) (txL ts) (t.goto 0) (fun y hy=>by rw [hx] at hy;injection hy with hy;omega) hq,g1]
   rfl
theorem IsS.goto {s:ByteArray} {t v:Tk} (h:IsS s t) (hv:v.goto 0=t.goto 0):IsS s v :=
 ⟨(congrArg Tk.kind hv).trans h.1,(congrArg Tk.text hv).trans h.2⟩
theorem rf_goto {t v:Tk} (hv:v.goto 0=t.goto 0):v.rf=t.rf:=(show (v.goto 0).rf=(t.goto 0).rf by rw [hv])
theorem LeafS.goto {ts:List Tk} {nd:Nd} (h:LeafS ts nd) (vs:List Tk) (hv:vs.map (Tk.goto · 0)=ts.map (Tk.goto · 0)):LeafS vs nd:=by
 have one:∀ t:Tk,vs.map (Tk.goto · 0)=[t].map (Tk.goto · 0)→∃ v,vs=[v]∧v.goto 0=t.goto 0:=by
  intro t h
  rw [List.map_cons,List.map_nil] at h
  obtain ⟨v,l,h1,h2,h3⟩:=List.map_eq_cons_iff.1 h
  rw [List.map_eq_nil_iff] at h3
  exact ⟨v,by rw [h1,h3],h2⟩
 cases h with
 | num t h =>
   obtain ⟨v,rfl,e⟩:=one t hv
   have:=congrArg Tk.num e
   rw [← show v.num=t.num from this]
   exact .num v ((congrArg Tk.kind e).trans h)
 | text t h =>
   obtain ⟨v,rfl,e⟩:=one t hv
   have:=congrArg Tk.text e
   rw [← show v.text=t.text from this]
   exact .text v ((congrArg Tk.kind e).trans h)
 | yes t h g =>
   obtain ⟨v,rfl,e⟩:=one t hv
   exact .yes v ((congrArg Tk.kind e).trans h) ((congrArg Tk.text e).trans g)
 | no t h g =>
   obtain ⟨v,rfl,e⟩:=one t hv
   exact .no v ((congrArg Tk.kind e).trans h) ((congrArg Tk.text e).trans g)
 | dead t h =>
   obtain ⟨v,rfl,e⟩:=one t hv
   exact .dead v ((congrArg Tk.kind e).trans h)
 | ref t h =>
   obtain ⟨v,rfl,e⟩:=one t hv
   rw [← rf_goto e]
   exact .ref v ((congrArg Tk.kind e).trans h)
 | range t c u h hc g hs =>
   rw [List.map_cons,List.map_cons,List.map_cons,List.map_nil] at hv
   obtain ⟨t',l,rfl,e1,h3⟩:=List.map_eq_cons_iff.1 hv
   obtain ⟨c',l,rfl,e2,h3⟩:=List.map_eq_cons_iff.1 h3
   obtain ⟨u',l,rfl,e3,h3⟩:=List.map_eq_cons_iff.1 h3
   rw [List.map_eq_nil_iff] at h3
   subst h3
   rw [← rf_goto e1, ← rf_goto e3] at hs ⊢
   exact .range t' c' u' ((congrArg Tk.kind e1).trans h) (hc.goto e2) ((congrArg Tk.kind e3).trans g) hs
theorem Wr.goto {n rk d d':Nat} {ts ts' vs':List Tk} (h:Wr n rk d ts d' ts') (hv:vs'.map (Tk.goto · 0)=ts'.map (Tk.goto · 0)):∃ vs,vs.map (Tk.goto · 0)=ts.map (Tk.goto · 0)∧Wr n rk d vs d' vs':=by
 rcases h with ⟨h1,rfl,rfl⟩ | ⟨h1,rfl,l,r,hl,hr,rfl⟩
 · exact ⟨vs',hv,.inl ⟨h1,rfl,rfl⟩⟩
 · rw [List.map_cons,List.map_append,List.map_cons,List.map_nil] at hv
   obtain ⟨l',k,rfl,e1,h3⟩:=List.map_eq_cons_iff.1 hv
   obtain ⟨vs,k2,rfl,e2,h3⟩:=List.map_eq_append_iff.1 h3
   obtain ⟨r',k3,rfl,e3,h3⟩:=List.map_eq_cons_iff.1 h3
   rw [List.map_eq_nil_iff] at h3
   subst h3
   exact ⟨vs,e2,.inr ⟨h1,rfl,l',r',hl.goto e1,hr.goto e3,rfl⟩⟩
theorem Sh.goto {b:Bool} {base:Nat} {ns:List Nd} {ks:List Int} {ts:List Tk} {rk d:Nat} (h:Sh b base ns ks ts rk d):∀ vs:List Tk,vs.map (Tk.goto · 0)=ts.map (Tk.goto · 0)→Sh b base ns ks vs rk d:=by
 induction h with
 | leaf base ts nd h=>exact fun vs hv => .leaf base vs nd (h.goto vs hv)
 | neg base ns a ts rk d h m hm d' ts' hw ih =>
   intro vs hv
   rw [List.map_cons] at hv
   obtain ⟨m',k,rfl,e1,h3⟩:=List.map_eq_cons_iff.1 hv
   obtain ⟨us,e2,hw'⟩:=hw.goto h3
   exact .neg base ns a us rk d (ih us e2) m' (hm.goto e1) d' k hw'
 | op base o ho ns ms a b ts us rk1 rk2 d1 d2 h g s hs e1 e2 ts' us' hw gw ih ig =>
   intro vs hv
   rw [List.map_append,List.map_cons] at hv
   obtain ⟨a',k,rfl,f1,h3⟩:=List.map_eq_append_iff.1 hv
   obtain ⟨s',b',rfl,f2,f3⟩:=List.map_eq_cons_iff.1 h3
   obtain ⟨xs,x1,hw'⟩:=hw.goto f1
   obtain ⟨ys,y1,gw'⟩:=gw.goto f3
   exact .op base o ho ns ms a b xs ys rk1 rk2 d1 d2 (ih xs x1) (ig ys y1) s' (hs.goto f2) e1 e2 a' b' hw' gw'
 | call base ns ks ts d h t l r ht h1 h2 hl hr ih =>
   intro vs hv
   rw [List.map_cons,List.map_cons,List.map_append,List.map_cons,List.map_nil] at hv
   obtain ⟨t',k,rfl,f1,h3⟩:=List.map_eq_cons_iff.1 hv
   obtain ⟨l',k,rfl,f2,h3⟩:=List.map_eq_cons_iff.1 h3
   obtain ⟨a',k,rfl,f3,h3⟩:=List.map_eq_append_iff.1 h3
   obtain ⟨r',k,rfl,f4,h3⟩:=List.map_eq_cons_iff.1 h3
   rw [List.map_eq_nil_iff] at h3
   subst h3
   have ht':t'.text=t.text:=(show (t'.goto 0).text=(t.goto 0).text by rw [f1])
   rw [← ht']
   exact .call base ns ks a' d (ih a' f3) t' l' r' ((congrArg Tk.kind f1).trans ht) (by rw [ht'];exact h1) (by rw [ht'];exact h2) (hl.goto f2) (hr.goto f4)
 | none base =>
   intro vs hv
   rw [List.map_nil,List.map_eq_nil_iff] at hv
   subst hv
   exact .none base
 | one base ns a ts rk d h ih=>exact fun vs hv => .one base ns a vs rk d (ih vs hv)
 | and base ns ms ks b ts us rk d1 d2 h hk c hc g ih ig =>
   intro vs hv
   rw [List.map_append,List.map_cons] at hv
   obtain ⟨a',k,rfl,f1,h3⟩:=List.map_eq_append_iff.1 hv
   obtain ⟨c',b',rfl,f2,f3⟩:=List.map_eq_cons_iff.1 h3
   exact .and base ns ms ks b a' b' rk d1 d2 (ih a' f1) hk c' (hc.goto f2) (ig b' f3)
theorem sh_text {ns:List Nd} {a:Int} {ts:List Tk} {rk d:Nat} (h:Sh false 0 ns [a] ts rk d) (hd:d≤12) (ht:∀ t∈ts,Tok t):∃ vs g,lexL (txL ts)=some vs∧parseP g vs=some (.ok ns):=by
 obtain ⟨vs,e,h1,h2,h3⟩:=lex_sep ts 0 ((sh_sq h).1 rfl).1 ht
 obtain ⟨g,hg⟩:=sh_parse (h.goto vs h3) hd e h2
 exact ⟨vs++[e],g,h1,hg⟩
theorem told_text {l:List Int} {ts:List Tk} {f:Nat} {ns:List Nd} (hb:Bytes l) (hl:lexL l=some ts) (hp:parseP f ts=some (.ok ns)) :
 ∃ us rk d a,Sh false 0 ns [a] us rk d∧d≤12∧(∀ t∈us,Tok t)∧(txL us).length≤l.length∧∃ vs g,lexL (txL us)=some vs∧parseP g vs=some (.ok ns):=by
 obtain ⟨body,e,h1,h2,h3,h4⟩:=lexF_tok _ _ _ _ hb hl
 unfold parseP at hp
 rcases bindR_some hp with ⟨er,_,h5⟩ | ⟨ms,a,r,h5,h6⟩
 · cases h5
 · by_cases hk:kindAt r=0
   · rw [if_pos hk] at h6
     injection h6 with h6;injection h6 with h6
     subst h6
     obtain ⟨pre,e1,us,rk,d,us',d',g1,g2,g3,g4⟩:=(has_all f).1 _ _ _ _ _ _ _ h5 (by omega) (by omega)
     obtain ⟨pre',e2,k2,_⟩:=((told_all f).1 _ _ _ _ _ _ _ h5).1
     rcases g2 with ⟨_,rfl,rfl⟩ | ⟨g2,_⟩
     · have ep:pre=pre':=List.append_cancel_right (e1.symm.trans e2)
       subst ep
       have hsub:us'.Sublist body:=by
        have s1:us'.Sublist ts:=by rw [e1];exact g3.trans (List.sublist_append_left _ _)
        have s2:=s1.filter (fun t=>decide (t.kind≠0))
        rw [h1,List.filter_append] at s2
        have f1:us'.filter (fun t=>decide (t.kind≠0))=us':=List.filter_eq_self.2 (fun t ht=>decide_eq_true (k2 t (g3.subset ht)))
        have f2:body.filter (fun t=>decide (t.kind≠0))=body:=List.filter_eq_self.2 (fun t ht=>decide_eq_true (h3 t ht).1)
        have f3:[e].filter (fun t=>decide (t.kind≠0))=[]:=by simp [h2]
        rw [f1,f2,f3,List.append_nil] at s2
        exact s2
       have htok:∀ t∈us',Tok t:=fun t ht=>h3 t (hsub.subset ht)
       refine ⟨us',rk,d',_,g1,by omega,htok, ?_,sh_text g1 (by omega) htok⟩
       rw [txL_len]
       exact Nat.le_trans (lenK_sub hsub) h4
     · omega
   · rw [if_neg hk] at h6;injection h6 with h6;cases h6
def rankL (k:Int):Nat:=if 9≤k∧k≤14 then 0 else if k=15 then 1 else if 16≤k∧k≤17 then 2 else if 18≤k∧k≤19 then 3 else if k=8 then 4 else 5
def inL (b:Bool) (t:List Int):List Int:=if b=true then 40 :: (t++[41]) else t
def joinA:List (List Int)→List Int
 | []=>[]
 | [a]=>a
 | a :: b :: l=>a++44 :: joinA (b :: l)
def nodeAt (l:List Nd) (at':Int):Nd:=l.getD at'.toNat Nd.zero
def shownL:Nat→List Nd→Int→List Int
 | 0,_,_=>[]
 | f + 1,l,i =>
   if (nodeAt l i).kind=1 then digL (nodeAt l i).num.toNat
   else if (nodeAt l i).kind=2 then 34 :: (dblL (sb (nodeAt l i).text)++[34])
   else if (nodeAt l i).kind=3 then (if (nodeAt l i).num=1 then [84,82,85,69] else [70,65,76,83,69])
   else if (nodeAt l i).kind=4 then [35,82,69,70,33]
   else if (nodeAt l i).kind=5 then textL (sb (nodeAt l i).ref.sh) (nodeAt l i).ref.c (nodeAt l i).ref.r (nodeAt l i).ref.ac (nodeAt l i).ref.ar
   else if (nodeAt l i).kind=6 then textL (sb (nodeAt l i).ref.sh) (nodeAt l i).ref.c (nodeAt l i).ref.r (nodeAt l i).ref.ac (nodeAt l i).ref.ar++58 :: textL (sb (nodeAt l i).to.sh) (nodeAt l i).to.c (nodeAt l i).to.r (nodeAt l i).to.ac (nodeAt l i).to.ar
   else if (nodeAt l i).kind=7 then sb (nodeAt l i).text++40 :: (joinA ((nodeAt l i).kids.map (shownL f l))++[41])
   else if (nodeAt l i).kind=8 then 45 :: inL (decide (rankL (nodeAt l ((nodeAt l i).kids.getD 0 0)).kind<4)) (shownL f l ((nodeAt l i).kids.getD 0 0))
   else inL (decide (rankL (nodeAt l ((nodeAt l i).kids.getD 0 0)).kind<rankL (nodeAt l i).kind)) (shownL f l ((nodeAt l i).kids.getD 0 0)) ++
    (opL ((nodeAt l i).kind - 9).toNat++inL (decide (rankL (nodeAt l ((nodeAt l i).kids.getD 1 0)).kind≤rankL (nodeAt l i).kind)) (shownL f l ((nodeAt l i).kids.getD 1 0)))
def printL (l:List Nd):List Int:=if treeB l=true then shownL l.length l ((l.length:Int) - 1) else []
theorem joinA_snoc (y:List Int):∀ xs:List (List Int),xs≠[]→joinA (xs++[y])=joinA xs++44 :: y
 | [],h=>absurd rfl h
 | [x],_=>rfl
 | x :: x' :: xs,_=>by
   have ih:=joinA_snoc y (x' :: xs) (by simp)
   show x++44 :: joinA (x' :: xs++[y])=x++44 :: joinA (x' :: xs)++44 :: y
   rw [ih];simp
theorem shown_succ (f:Nat) (l:List Nd) (i:Int) (n:Nd) (h:nodeAt l i=n):shownL (f+1) l i =
 if n.kind=1 then digL n.num.toNat
 else if n.kind=2 then 34 :: (dblL (sb n.text)++[34])
 else if n.kind=3 then (if n.num=1 then [84,82,85,69] else [70,65,76,83,69])
 else if n.kind=4 then [35,82,69,70,33]
 else if n.kind=5 then textL (sb n.ref.sh) n.ref.c n.ref.r n.ref.ac n.ref.ar
 else if n.kind=6 then textL (sb n.ref.sh) n.ref.c n.ref.r n.ref.ac n.ref.ar++58 :: textL (sb n.to.sh) n.to.c n.to.r n.to.ac n.to.ar
 else if n.kind=7 then sb n.text++40 :: (joinA (n.kids.map (shownL f l))++[41])
 else if n.kind=8 then 45 :: inL (decide (rankL (nodeAt l (n.kids.getD 0 0)).kind<4)) (shownL f l (n.kids.getD 0 0))
 else inL (decide (rankL (nodeAt l (n.kids.getD 0 0)).kind<rankL n.kind)) (shownL f l (n.kids.getD 0 0)) ++
  (opL (n.kind - 9).toNat++inL (decide (rankL (nodeAt l (n.kids.getD 1 0)).kind≤rankL n.kind)) (shownL f l (n.kids.getD 1 0))):=by
 subst h;conv=>lhs;unfold shownL
theorem txL_app (a b:List Tk):txL (a++b)=txL a++txL b:=by unfold txL;rw [List.flatMap_append]
theorem txK_sign {s:ByteArray} {t:Tk} (h:IsS s t):txK t=sb s:=by
 unfold txK;rw [h.1,h.2];rfl
theorem txL_wr {n rk d d':Nat} {ts ts':List Tk} (h:Wr n rk d ts d' ts'):txL ts'=inL (decide (rk<n)) (txL ts):=by
 rcases h with ⟨h,rfl,_⟩ | ⟨h,_,l,r,hl,hr,rfl⟩
 · rw [decide_eq_false (by omega)];rfl
 · rw [decide_eq_true h,txL_cons,txL_app,txL_cons,txK_sign hl,txK_sign hr];rfl
def InL (l:List Nd) (base:Nat) (ns:List Nd):Prop:=∃ pre post,l=pre++(ns++post)∧pre.length=base
theorem InL.left {l ns ms:List Nd} {base:Nat} (h:InL l base (ns++ms)):InL l base ns:=by
 obtain ⟨p,q,h1,h2⟩:=h;exact ⟨p,ms++q,by rw [h1];simp,h2⟩
theorem InL.right {l ns ms:List Nd} {base:Nat} (h:InL l base (ns++ms)):InL l (base+ns.length) ms:=by
 obtain ⟨p,q,h1,h2⟩:=h;exact ⟨p++ns,q,by rw [h1];simp,by rw [List.length_append,h2]⟩
theorem InL.at {l:List Nd} {base:Nat} {n:Nd} (h:InL l base [n]):nodeAt l (base:Int)=n:=by
 obtain ⟨p,q,h1,h2⟩:=h
 unfold nodeAt
 rw [h1,Int.toNat_natCast, ← h2];simp
theorem op_rank:∀ o:Nat,o<11→rankL (9+(o:Int))=rk o∧sb (opS.getD o ⟨#[]⟩)=opL o:=by decide +kernel
theorem sh_shown {b:Bool} {base:Nat} {ns:List Nd} {ks:List Int} {ts:List Tk} {rq d:Nat} (h:Sh b base ns ks ts rq d) :
 ∀ l f,InL l base ns→ns.length≤f→(b=false→∀ a,ks=[a]→shownL f l a=txL ts∧rankL (nodeAt l a).kind=rq)∧(b=true→joinA (ks.map (shownL f l))=txL ts):=by
 induction h with
 | leaf base ts nd h =>
   intro l f hi hf
   refine ⟨fun _ a ha => ?_,fun h=>by cases h⟩
   injection ha with ha _
   subst ha
   obtain ⟨g,rfl⟩:∃ g,f=g+1:=⟨f - 1,by simp at hf;omega⟩
   have hn:=hi.at
   rw [hn]
   rw [shown_succ g l _ nd hn]
   cases h with
   | num t h=>refine ⟨?_,rfl⟩;rw [if_pos rfl,txL_cons];unfold txK;rw [if_pos h];simp [txL]
   | text t h=>refine ⟨?_,rfl⟩;rw [if_neg (by simp),if_pos rfl,txL_cons];unfold txK;rw [h,if_neg (by decide),if_pos rfl];simp [txL]
   | yes t h g=>refine ⟨?_,rfl⟩;rw [if_neg (by decide),if_neg (by decide),if_pos rfl,if_pos rfl,txL_cons];unfold txK;rw [h,g,if_neg (by decide),if_neg (by decide),if_neg (by decide),if_neg (by decide)];rfl
   | no t h g=>refine ⟨?_,rfl⟩;rw [if_neg (by decide),if_neg (by decide),if_pos rfl,if_neg (by decide),txL_cons];unfold txK;rw [h,g,if_neg (by decide),if_neg (by decide),if_neg (by decide),if_neg (by decide)];rfl
   | dead t h=>refine ⟨?_,rfl⟩;rw [if_neg (by decide),if_neg (by decide),if_neg (by decide),if_pos rfl,txL_cons];unfold txK;rw [h,if_neg (by decide),if_neg (by decide),if_neg (by decide),if_pos rfl];rfl
   | ref t h =>
     refine ⟨?_,rfl⟩
     rw [if_neg (by simp),if_neg (by simp),if_neg (by simp),if_neg (by simp),if_pos rfl,txL_cons]
     unfold txK;rw [h,if_neg (by decide),if_neg (by decide),if_pos rfl];simp [txL,Tk.rf]
   | range t c u h hc g hs =>
     refine ⟨?_,rfl⟩
     rw [if_neg (by simp),if_neg (by simp),if_neg (by simp),if_neg (by simp),if_neg (by simp),if_pos rfl,txL_cons,txL_cons,txL_cons,txK_sign hc]
     unfold txK;rw [h,g,if_neg (by decide),if_neg (by decide),if_pos rfl,if_neg (by decide),if_neg (by decide),if_pos rfl]
     have:sb (⟨#[58]⟩:ByteArray)=[58]:=by decide
     rw [this];simp [txL,Tk.rf]
 | neg base ns a ts rk d h m hm d' ts' hw ih =>
   intro l f hi hf
   refine ⟨fun _ a' ha => ?_,fun h=>by cases h⟩
   injection ha with ha _
   subst ha
   rw [List.length_append,List.length_singleton] at hf
   obtain ⟨g,rfl⟩:∃ g,f=g+1:=⟨f - 1,by omega⟩
   obtain ⟨e1,e2⟩:=(ih l g hi.left (by omega)).1 rfl a rfl
   have hn:=hi.right.at
   rw [hn]
   refine ⟨?_,rfl⟩
   rw [shown_succ g l _ _ hn,if_neg (by simp),if_neg (by simp),if_neg (by simp),if_neg (by simp),if_neg (by simp),if_neg (by simp),if_neg (by simp),if_pos rfl,txL_cons,txK_sign hm,txL_wr hw]
   show 45 :: inL (decide (rankL (nodeAt l a).kind<4)) (shownL g l a)=_
   rw [e1,e2];rfl
 | op base o ho ns ms a b ts us rk1 rk2 d1 d2 h g s hs x1 x2 ts' us' hw gw ih ig =>
   intro l f hi hf
   refine ⟨fun _ a' ha => ?_,fun h=>by cases h⟩
   injection ha with ha _
   subst ha
   rw [List.length_append,List.length_append,List.length_singleton] at hf
   obtain ⟨q,rfl⟩:∃ q,f=q+1:=⟨f - 1,by omega⟩
   obtain ⟨e1,e2⟩:=(ih l q hi.left (by omega)).1 rfl a rfl
   obtain ⟨j1,j2⟩:=(ig l q hi.right.left (by omega)).1 rfl b rfl
   have hn:=hi.right.right.at
   rw [Nat.add_assoc] at hn
   obtain ⟨hr,ht⟩:=op_rank o ho
   rw [hn]
   refine ⟨?_,hr⟩
   rw [shown_succ q l _ _ hn,if_neg (by show ¬ 9+(o:Int)=1;omega),if_neg (by show ¬ 9+(o:Int)=2;omega),if_neg (by show ¬ 9+(o:Int)=3;omega),if_neg (by show ¬ 9+(o:Int)=4;omega),if_neg (by show ¬ 9+(o:Int)=5;omega),
    if_neg (by show ¬ 9+(o:Int)=6;omega),if_neg (by show ¬ 9+(o:Int)=7;omega),if_neg (by show ¬ 9+(o:Int)=8;omega),txL_app,txL_cons,txK_sign hs,txL_wr hw,txL_wr gw]
   show inL (decide (rankL (nodeAt l a).kind<rankL (9+(o:Int)))) (shownL q l a)++(opL (9+(o:Int) - 9).toNat++inL (decide (rankL (nodeAt l b).kind≤rankL (9+(o:Int)))) (shownL q l b))=_
   rw [e1,e2,j1,j2,hr,ht,show (9+(o:Int) - 9).toNat=o by omega]
   have:decide (rk2≤rk o)=decide (rk2<rk o+1):=by rw [decide_eq_decide];omega
   rw [this]
 | call base ns ks ts d h t x r ht h1 h2 hl hr ih =>
   intro l f hi hf
   refine ⟨fun _ a' ha => ?_,fun h=>by cases h⟩
   injection ha with ha _
   subst ha
   rw [List.length_append,List.length_singleton] at hf
   obtain ⟨g,rfl⟩:∃ g,f=g+1:=⟨f - 1,by omega⟩
   have e1:=(ih l g hi.left (by omega)).2 rfl
   have hn:=hi.right.at
   rw [hn]
   refine ⟨?_,rfl⟩
   rw [shown_succ g l _ _ hn,if_neg (by simp),if_neg (by simp),if_neg (by simp),if_neg (by simp),if_neg (by simp),if_neg (by simp),if_pos rfl,txL_cons,txL_cons,txL_app,txL_cons,txK_sign hl,txK_sign hr]
   have:txK t=sb t.text:=by unfold txK;rw [ht];rfl
   rw [this]
   show sb t.text++40 :: (joinA (ks.map (shownL g l))++[41])=_
   rw [e1];rfl
 | none base=>exact fun l f _ _=>⟨fun h=>(by cases h),fun _=>rfl⟩
 | one base ns a ts rk d h ih =>
   intro l f hi hf
   exact ⟨fun h=>(by cases h),fun _=>((ih l f hi hf).1 rfl a rfl).1⟩
 | and base ns ms ks b ts us rk d1 d2 h hk c hc g ih ig =>
   intro l f hi hf
   refine ⟨fun h=>(by cases h),fun _ => ?_⟩
   rw [List.length_append] at hf
   have e1:=(ih l f hi.left (by omega)).2 rfl
   have e2:=((ig l f hi.right (by omega)).1 rfl b rfl).1
   rw [List.map_append,List.map_cons,List.map_nil,joinA_snoc _ _ (by simpa using hk),e1,e2,txL_app,txL_cons,txK_sign hc]
   rfl
theorem sh_len {b:Bool} {base:Nat} {ns:List Nd} {ks:List Int} {ts:List Tk} {rq d:Nat} (h:Sh b base ns ks ts rq d):b=false→ks=[((base+ns.length:Nat):Int) - 1]:=by
 cases h with
 | leaf base ts nd h=>intro _;simp
 | neg base ns a ts rk d h m hm d' ts' hw=>intro _;simp;omega
 | op base o ho ns ms a b ts us rk1 rk2 d1 d2 h g s hs e1 e2 ts' us' hw gw=>intro _;simp;omega
 | call base ns ks ts d h t l r ht h1 h2 hl hr=>intro _;simp;omega
 | none base=>intro h;cases h
 | one base ns a ts rk d h=>intro h;cases h
 | and base ns ms ks b ts us rk d1 d2 h hk c hc g=>intro h;cases h
theorem sh_print {ns:List Nd} {a:Int} {ts:List Tk} {rq d:Nat} (h:Sh false 0 ns [a] ts rq d) (ht:treeB ns=true):printL ns=txL ts:=by
 unfold printL
 rw [if_pos ht]
 have e:=sh_len h rfl
 have:=((sh_shown h ns ns.length ⟨[],[],by simp,rfl⟩ (Nat.le_refl _)).1 rfl a rfl).1
 injection e with e _
 rw [e,Nat.zero_add] at this
 exact this
theorem print_told {l:List Int} {ts:List Tk} {f:Nat} {ns:List Nd} (hb:Bytes l) (hl:lexL l=some ts) (hp:parseP f ts=some (.ok ns)) (ht:treeB ns=true) :
 (printL ns).length≤l.length∧∃ vs g,lexL (printL ns)=some vs∧parseP g vs=some (.ok ns):=by
 obtain ⟨us,rq,d,a,h1,h2,h3,h4,h5⟩:=told_text hb hl hp
 rw [sh_print h1 ht]
 exact ⟨h4,h5⟩
theorem tree_kids:∀ (ns:List Nd) (st:List Int) (i:Nat),(∀ k∈st,0≤k∧k<i)→treeF st i ns=true→∀ (j:Nat) (n:Nd),ns[j]? = some n→nodeB n=true∧∀ k∈n.kids,0≤k∧k<((i+j:Nat):Int)
 | [],_,_,_,_,j,n,h=>by simp at h
 | m :: ns,st,i,hst,ht,j,n,h=>by
   rw [treeF_cons,Bool.and_eq_true,Bool.and_eq_true,Bool.and_eq_true,decide_eq_true_iff,decide_eq_true_iff] at ht
   obtain ⟨h1,h2,h3,h4⟩:=ht
   cases j with
   | zero =>
     have:m=n:=by simpa using h
     subst this
     refine ⟨h1,fun k hk => ?_⟩
     rw [← h3] at hk
     exact hst k (List.mem_of_mem_drop hk)
   | succ j =>
     have g:=tree_kids ns _ (i+1) (by
      intro k hk
      rcases List.mem_append.1 hk with hk | hk
      · have:=hst k (List.mem_of_mem_take hk);omega
      · simp at hk;omega) h4 j n (by simpa using h)
     rw [show i+(j+1)=i+1+j by omega]
     exact g
theorem tok_word {x:Int} {l:List Int} (hall:∀ y∈x :: l,isWord y=true) (hx:isLet x=true∨x=36):tokT (x :: l++[32])=(match readS (strOfNums (x :: l)) with
 | some d=>some ({ Tk.zero with kind:=4,sh:=d.sh,c:=d.c,r:=d.r,ac:=d.ac,ar:=d.ar },(x :: l).length)
 | none=>if calledL (x :: l)=true then some ({ Tk.zero with kind:=3,text:=strOfNums (x :: l) },(x :: l).length) else none):=by
 have h1:¬ isNum x=true:=by
  rcases hx with hx | hx
  · unfold isLet at hx;unfold isNum;rw [decide_eq_true_iff] at hx ⊢;omega
  · subst hx;decide
 have h2:¬ x=34∧¬ x=35:=by
  rcases hx with hx | hx
  · unfold isLet at hx;rw [decide_eq_true_iff] at hx;omega
  · omega
 have ht:(x :: (l++[32])).takeWhile isWord=x :: l:=take_part isWord (x :: l) [32] hall (fun y hy=>by simp at hy;subst hy;decide)
 rw [List.cons_append,tokT_cons,if_neg h1,if_neg h2.1,if_neg h2.2,if_pos hx]
 unfold wordT
 rw [ht]
 rfl
def tkNum (n:Int):Tk:={ Tk.zero with kind:=1,num:=n }
def tkText (s:ByteArray):Tk:={ Tk.zero with kind:=2,text:=s }
def tkName (s:ByteArray):Tk:={ Tk.zero with kind:=3,text:=s }
def tkRef (r:Rf):Tk:={ Tk.zero with kind:=4,sh:=r.sh,c:=r.c,r:=r.r,ac:=r.ac,ar:=r.ar }
def tkSign (s:ByteArray):Tk:={ Tk.zero with kind:=5,text:=s }
def tkDead:Tk:={ Tk.zero with kind:=6 }
theorem tok_num {n:Int} (h0:0≤n) (h:n≤9223372036854775807):Tok (tkNum n):=by
 have e:txK (tkNum n)=digL n.toNat:=rfl
 refine ⟨(by simp [tkNum]), ?_,by rw [e];exact bytes_digL _⟩
 have:=tok_digits n.toNat (by omega) [32] (fun x hx=>by simp at hx;subst hx;decide)
 rw [e,this,Int.toNat_of_nonneg h0];rfl
theorem bytes_dbl:∀ l:List Int,Bytes l→Bytes (dblL l)
 | [],_=>Bytes.nil
 | x :: l,h=>by
   have ih:=bytes_dbl l (fun y hy=>h y (by simp [hy]))
   show Bytes ((if x=34 then [34,34] else [x])++dblL l)
   refine Bytes.append ?_ ih
   split
   · intro y hy;simp at hy;omega
   · intro y hy;simp at hy;subst hy;exact h y (by simp)
theorem tok_quote {s:ByteArray} (h:printB (sb s)=true):Tok (tkText s):=by
 have e:txK (tkText s)=34 :: (dblL (sb s)++[34]):=rfl
 have hb:Bytes [34]:=by intro x hx;simp at hx;omega
 refine ⟨(by simp [tkText]), ?_,by rw [e];exact Bytes.append (a:=[34]) hb ((bytes_dbl _ (sb_bd s)).append hb)⟩
 unfold printB at h
 have:=quoF_dblB (sb s) [32] (of_decide_eq_true h) (fun x hx=>by simp at hx;omega)
 rw [e,List.cons_append,tokT_cons,if_neg (by decide),if_pos rfl]
 unfold quoT
 rw [List.append_assoc,List.singleton_append,this]
 simp only [Option.map_some,Option.some.injEq,Prod.mk.injEq,str_sb,List.length_cons,List.length_append,List.length_nil]
 first
  | rfl
  | exact ⟨rfl,trivial⟩
theorem tok_name {s:ByteArray} (h:calledL (sb s)=true) (hr:(readS s).isNone=true):Tok (tkName s):=by
 have e:txK (tkName s)=sb s:=rfl
 refine ⟨(by simp [tkName]), ?_,by rw [e];exact sb_bd s⟩
 have hc:=h
 unfold calledL at hc
 rw [Bool.and_eq_true,Bool.and_eq_true,decide_eq_true_iff,decide_eq_true_iff] at hc
 obtain ⟨c1,c2,c3⟩:=hc
 have hs:=str_sb s
 rw [e]
 cases hq:sb s with
 | nil=>rw [hq] at c2;simp at c2
 | cons x l =>
   rw [hq] at c1 c3 hs h
   have hall:∀ y∈x :: l,isWord y=true:=by
    intro y hy
    have:=c1 y hy
    rw [Bool.or_eq_true] at this
    rcases this with g | g
    · exact word_cap g
    · exact word_num g
   have hx:isLet x=true:=by
    have hx:isCap x=true:=by simpa using c3
    unfold isCap at hx;unfold isLet;rw [decide_eq_true_iff] at hx ⊢;omega
   rw [tok_word hall (.inl hx),hs]
   cases hd:readS s with
   | some d=>rw [hd] at hr;cases hr
   | none=>simp only;rw [if_pos h];rfl
theorem tok_ref {r:Rf} (h:mayRf r=true):Tok (tkRef r):=by
 have e:txK (tkRef r)=textL (sb r.sh) r.c r.r r.ac r.ar:=rfl
 refine ⟨(by simp [tkRef]), ?_,by rw [e];exact bytes_textL _ _ _ _ _⟩
 obtain ⟨x,l,hd,hx⟩:=textL_head (sb r.sh) r.c r.r r.ac r.ar h
 have hall:=word_textL (sb r.sh) r.c r.r r.ac r.ar h
 obtain ⟨d,hr,e1,e2,e3,e4,e5⟩:=read_text r.sh r.c r.r r.ac r.ar h
 rw [e]
 rw [hd] at hall hr ⊢
 rw [tok_word hall hx,hr]
 simp only [e1,e2,e3,e4,e5]
 rfl
def tokB (t:Tk):Bool:=match tokT (txK t++[32]) with
 | some (u,n)=>decide (n=(txK t).length)&&(decide (u.kind=t.kind∧u.text=t.text∧u.num=t.num∧u.sh=t.sh∧u.c=t.c∧u.r=t.r∧u.pos=0)&&(u.ac == t.ac&&u.ar == t.ar))
 | none=>false
theorem tok_of {t:Tk} (h:tokB t=true) (hk:t.kind≠0) (hb:Bytes (txK t)):Tok t:=by
 refine ⟨hk, ?_,hb⟩
 unfold tokB at h
 cases hq:tokT (txK t++[32]) with
 | none=>rw [hq] at h;cases h
 | some q =>
   obtain ⟨u,n⟩:=q
   rw [hq] at h
   simp only [Bool.and_eq_true,decide_eq_true_iff,beq_iff_eq] at h
   obtain ⟨h1,⟨g1,g2,g3,g4,g5,g6,g7⟩,g8,g9⟩:=h
   rw [h1]
   have:u=t.goto 0:=by
    cases u;cases t;simp only [Tk.goto] at *;subst g1 g2 g3 g4 g5 g6 g7 g8 g9;rfl
   rw [this]
def signs:List ByteArray:=[⟨#[40]⟩,⟨#[41]⟩,⟨#[44]⟩,⟨#[58]⟩]++opS
theorem signs_all:signs.all (fun s=>tokB (tkSign s)&&(txK (tkSign s)).all fun x=>decide (0≤x∧x≤255))=true:=by decide +kernel
theorem dead_all:(tokB tkDead&&(txK tkDead).all fun x=>decide (0≤x∧x≤255))=true:=by decide +kernel
theorem tok_sign {s:ByteArray} (h:s∈signs):Tok (tkSign s)∧IsS s (tkSign s):=by
 have:=List.all_eq_true.1 signs_all s h
 rw [Bool.and_eq_true] at this
 refine ⟨tok_of this.1 (by decide +revert) ?_,rfl,rfl⟩
 intro x hx
 simpa using List.all_eq_true.1 this.2 x hx
theorem tok_dead':Tok tkDead:=by
 have:=dead_all
 rw [Bool.and_eq_true] at this
 refine ⟨by decide,(tok_of this.1 (by decide) ?_).2.1, ?_⟩
 all_goals
  intro x hx
  simpa using List.all_eq_true.1 this.2 x hx
theorem noRf_is {r:Rf} (h:noRf r=true):r=Rf.zero:=by
 unfold noRf at h
 rw [Bool.and_eq_true,decide_eq_true_iff,Bool.and_eq_true] at h
 obtain ⟨⟨h1,h2,h3⟩,h4,h5⟩:=h
 cases r with
 | mk sh c r ac ar =>
   simp only at h1 h2 h3 h4 h5
   subst h1 h2 h3
   cases ac <;> cases ar <;> simp at h4 h5
   rfl
theorem leaf_facts {n:Nd} (h:leafB n=true):(n.kind=1∨n.kind=3∨n.num=0)∧(n.kind=2∨n.kind=7∨n.text=⟨#[]⟩)∧(n.kind=5∨n.kind=6∨n.ref=Rf.zero)∧(n.kind=6∨n.to=Rf.zero) ∧
 (if n.kind=1 then decide (0≤n.num)
   else if n.kind=3 then decide (n.num=0∨n.num=1)
   else if n.kind=2 then printB (sb n.text)
   else if n.kind=7 then callB n.text
   else if n.kind=5 then mayRf n.ref
   else if n.kind=6 then mayRf n.ref&&(mayRf n.to&&spanB n.ref n.to)
   else true)=true:=by
 unfold leafB at h
 by_cases c:(n.kind≠1∧n.kind≠3∧n.num≠0)∨(n.kind≠2∧n.kind≠7∧n.text≠⟨#[]⟩)∨(n.kind≠5∧n.kind≠6∧noRf n.ref=false)∨(n.kind≠6∧noRf n.to=false)
 · rw [if_pos c] at h;cases h
 · rw [if_neg c] at h
   refine ⟨?_, ?_, ?_, ?_,h⟩
   · apply Decidable.byContradiction;intro d;exact c (.inl ⟨fun e=>d (.inl e),fun e=>d (.inr (.inl e)),fun e=>d (.inr (.inr e))⟩)
   · by_cases d1:n.kind=2
     · exact .inl d1
     · by_cases d2:n.kind=7
       · exact .inr (.inl d2)
       · by_cases d3:n.text=⟨#[]⟩
         · exact .inr (.inr d3)
         · exact absurd (.inr (.inl ⟨d1,d2,d3⟩)) c
   · by_cases d1:n.kind=5
     · exact .inl d1
     · by_cases d2:n.kind=6
       · exact .inr (.inl d2)
       · cases d3:noRf n.ref with
         | true=>exact .inr (.inr (noRf_is d3))
         | false=>exact absurd (.inr (.inr (.inl ⟨d1,d2,d3⟩))) c
   · by_cases d2:n.kind=6
     · exact .inl d2
     · cases d3:noRf n.to with
       | true=>exact .inr (noRf_is d3)
       | false=>exact absurd (.inr (.inr (.inr ⟨d2,d3⟩))) c
theorem leaf_tok {n:Nd} (h:leafB n=true) (h1:1≤n.kind) (h2:n.kind≤6) (hk:n.kids=[]) (hm:n.num≤9223372036854775807):∃ ts,LeafS ts n∧∀ t∈ts,Tok t:=by
 obtain ⟨f1,f2,f3,f4,f5⟩:=leaf_facts h
 cases n with
 | mk kind num text ref to kids =>
   simp only at f1 f2 f3 f4 f5 h1 h2 hk hm
   subst hk
   by_cases c1:kind=1
   · subst c1
     rw [if_pos rfl] at f5
     obtain rfl:=(f2.resolve_left (by omega)).resolve_left (by omega)
     obtain rfl:=(f3.resolve_left (by omega)).resolve_left (by omega)
     obtain rfl:=f4.resolve_left (by omega)
     exact ⟨[tkNum num],.num (tkNum num) rfl,by intro t ht;simp at ht;subst ht;exact tok_num (of_decide_eq_true f5) hm⟩
   · rw [if_neg c1] at f5
     by_cases c3:kind=3
     · subst c3
       rw [if_pos rfl] at f5
       obtain rfl:=(f2.resolve_left (by omega)).resolve_left (by omega)
       obtain rfl:=(f3.resolve_left (by omega)).resolve_left (by omega)
       obtain rfl:=f4.resolve_left (by omega)
       have hw:∀ s:ByteArray,s=⟨#[84,82,85,69]⟩∨s=⟨#[70,65,76,83,69]⟩→Tok (tkName s):=by
        intro s hs
        rcases hs with rfl | rfl
        · exact tok_name (by decide +kernel) (by decide +kernel)
        · exact tok_name (by decide +kernel) (by decide +kernel)
       rcases of_decide_eq_true f5 with rfl | rfl
       · exact ⟨[tkName ⟨#[70,65,76,83,69]⟩],.no (tkName _) rfl rfl,by intro t ht;simp at ht;subst ht;exact hw _ (.inr rfl)⟩
       · exact ⟨[tkName ⟨#[84,82,85,69]⟩],.yes (tkName _) rfl rfl,by intro t ht;simp at ht;subst ht;exact hw _ (.inl rfl)⟩
     · rw [if_neg c3] at f5
       obtain rfl:=(f1.resolve_left c1).resolve_left c3
       by_cases c2:kind=2
       · subst c2
         rw [if_pos rfl] at f5
         obtain rfl:=(f3.resolve_left (by omega)).resolve_left (by omega)
         obtain rfl:=f4.resolve_left (by omega)
         exact ⟨[tkText text],.text (tkText text) rfl,by intro t ht;simp at ht;subst ht;exact tok_quote f5⟩
       · rw [if_neg c2,if_neg (by omega)] at f5
         obtain rfl:=(f2.resolve_left c2).resolve_left (by omega)
         by_cases c5:kind=5
         · subst c5
           rw [if_pos rfl] at f5
           obtain rfl:=f4.resolve_left (by omega)
           exact ⟨[tkRef ref],.ref (tkRef ref) rfl,by intro t ht;simp at ht;subst ht;exact tok_ref f5⟩
         · rw [if_neg c5] at f5
           by_cases c6:kind=6
           · subst c6
             rw [if_pos rfl,Bool.and_eq_true,Bool.and_eq_true] at f5
             obtain ⟨g,gs⟩:=tok_sign (s:=⟨#[58]⟩) (by simp [signs,opS])
             refine ⟨[tkRef ref,tkSign ⟨#[58]⟩,tkRef to],.range (tkRef ref) _ (tkRef to) rfl gs rfl f5.2.2, ?_⟩
             intro t ht
             simp at ht
             rcases ht with rfl | rfl | rfl
             · exact tok_ref f5.1
             · exact g
             · exact tok_ref f5.2.1
           · obtain rfl:kind=4:=by omega
             obtain rfl:=(f3.resolve_left (by omega)).resolve_left (by omega)
             obtain rfl:=f4.resolve_left (by omega)
             exact ⟨[tkDead],.dead tkDead rfl,by intro t ht;simp at ht;subst ht;exact tok_dead'⟩
theorem wr_tok (n rk d:Nat) (ts:List Tk) (h:∀ t∈ts,Tok t):∃ d' ts',Wr n rk d ts d' ts'∧∀ t∈ts',Tok t:=by
 by_cases c:n≤rk
 · exact ⟨d,ts,.inl ⟨c,rfl,rfl⟩,h⟩
 · obtain ⟨g1,s1⟩:=tok_sign (s:=⟨#[40]⟩) (by simp [signs,opS])
   obtain ⟨g2,s2⟩:=tok_sign (s:=⟨#[41]⟩) (by simp [signs,opS])
   refine ⟨d+1,_,.inr ⟨by omega,rfl,_,_,s1,s2,rfl⟩, ?_⟩
   intro t ht
   rcases List.mem_cons.1 ht with rfl | ht
   · exact g1
   · rcases List.mem_append.1 ht with ht | ht
     · exact h t ht
     · simp at ht;subst ht;exact g2
inductive FS:Nat→List Nd→List Int→Prop
 | nil:FS 0 [] []
 | snoc (i:Nat) (done:List Nd) (st:List Int) (h:FS i done st) (ns:List Nd) (a:Int) (ts:List Tk) (rk d:Nat) (g:Sh false i ns [a] ts rk d) (ht:∀ t∈ts,Tok t):FS (i+ns.length) (done++ns) (st++[a])
theorem FS.last {i:Nat} {all:List Nd} {st:List Int} {a:Int} (h:FS i all (st++[a])):∃ j done ns ts rk d,FS j done st∧all=done++ns∧i=j+ns.length∧Sh false j ns [a] ts rk d∧∀ t∈ts,Tok t:=by
 generalize e:st++[a]=st' at h
 cases h with
 | nil=>simp at e
 | snoc j done st0 h ns a0 ts rk d g ht =>
   obtain ⟨rfl,e2⟩:=List.append_inj' e rfl
   injection e2 with e2 _
   subst e2
   exact ⟨j,done,ns,ts,rk,d,h,rfl,rfl,g,ht⟩
theorem FS.nil_is {i:Nat} {done:List Nd} {st:List Int} (h:FS i done st) (e:st=[]):done=[]∧i=0:=by
 cases h with
 | nil=>exact ⟨rfl,rfl⟩
 | snoc=>simp at e
theorem sh_none {base:Nat} {ns:List Nd} {ks:List Int} {ts:List Tk} {rq d:Nat} (h:Sh true base ns ks ts rq d) (e:ks=[]):ns=[]∧ts=[]:=by
 cases h with
 | none=>exact ⟨rfl,rfl⟩
 | one=>cases e
 | and=>simp at e
theorem FS.many:∀ (m:Nat) (ks:List Int),ks.length=m→∀ (i:Nat) (all:List Nd) (st:List Int),FS i all (st++ks)→∃ j done ns ts d,FS j done st∧all=done++ns∧i=j+ns.length∧Sh true j ns ks ts 0 d∧∀ t∈ts,Tok t
 | 0,ks,hk,i,all,st,h=>by
   obtain rfl:=List.eq_nil_of_length_eq_zero hk
   rw [List.append_nil] at h
   exact ⟨i,all,[],[],0,h,by simp,by simp,.none i,by simp⟩
 | m + 1,ks,hk,i,all,st,h=>by
   obtain ⟨ks',b,rfl⟩:∃ ks' b,ks=ks'++[b]:=⟨ks.dropLast,ks.getLast (by rintro rfl;simp at hk),(List.dropLast_concat_getLast _).symm⟩
   rw [← List.append_assoc] at h
   obtain ⟨j,done,ns,ts,rk,d,h1,rfl,rfl,h2,h3⟩:=h.last
   obtain ⟨j',done',ns',ts',d',g1,rfl,rfl,g2,g3⟩:=FS.many m ks' (by simpa using hk) j done st h1
   by_cases c:ks'=[]
   · subst c
     obtain ⟨rfl,rfl⟩:=sh_none g2 rfl
     exact ⟨j',done',ns,ts,d,g1,by simp,by simp,.one j' ns b ts rk d (by simpa using h2),h3⟩
   · obtain ⟨gc,sc⟩:=tok_sign (s:=⟨#[44]⟩) (by simp [signs,opS])
     refine ⟨j',done',ns'++ns,_,_,g1,by rw [List.append_assoc],by rw [List.length_append,Nat.add_assoc],.and j' ns' ns ks' b ts' ts rk d' d g2 c _ sc h2, ?_⟩
     intro t ht
     rcases List.mem_append.1 ht with ht | ht
     · exact g3 t ht
     · rcases List.mem_cons.1 ht with rfl | ht
       · exact gc
       · exact h3 t ht
theorem tree_fs:∀ (ns:List Nd) (i:Nat) (done:List Nd) (st:List Int),FS i done st→treeF st i ns=true→(∀ n∈ns,n.num≤9223372036854775807)→∃ a,FS (i+ns.length) (done++ns) [a]
 | [],i,done,st,h,ht,_=>by
   have:st.length=1:=of_decide_eq_true ht
   match st,this with
   | [a],_=>exact ⟨a,by simpa using h⟩
 | n :: ns, i,done,st,h,ht,hm=>by
   rw [treeF_cons,Bool.and_eq_true,Bool.and_eq_true,Bool.and_eq_true,decide_eq_true_iff,decide_eq_true_iff] at ht
   obtain ⟨h1,h2,h3,h4⟩:=ht
   have hst:st=st.take (st.length - n.kids.length)++n.kids:=by conv=>lhs;rw [← List.take_append_drop (st.length - n.kids.length) st,h3]
   generalize st.take (st.length - n.kids.length)=st0 at hst h4
   subst hst
   unfold nodeB at h1
   rw [Bool.and_eq_true,Bool.or_eq_true,decide_eq_true_iff,decide_eq_true_iff] at h1
   obtain ⟨hl,ha⟩:=h1
   have hfs : FS (i+1) (done++[n]) (st0++[(i:Int)]):=by
    by_cases c1:1≤n.kind∧n.kind≤6
    · have hk:n.kids=[]:=by
       unfold armsN at ha;rw [if_pos c1] at ha
       exact List.eq_nil_of_length_eq_zero (by omega)
      rw [hk,List.append_nil] at h
      obtain ⟨ts,g1,g2⟩:=leaf_tok hl c1.1 c1.2 hk (hm n (by simp))
      exact .snoc i done st0 h [n] _ ts 5 0 (.leaf i ts n g1) g2
    · obtain ⟨f1,f2,f3,f4,f5⟩:=leaf_facts hl
      have e1:n.num=0:=(f1.resolve_left (by omega)).resolve_left (by omega)
      have e3:n.ref=Rf.zero:=(f3.resolve_left (by omega)).resolve_left (by omega)
      have e4:n.to=Rf.zero:=f4.resolve_left (by omega)
      rw [if_neg (by omega),if_neg (by omega),if_neg (by omega)] at f5
      by_cases c7:n.kind=7
      · rw [if_pos c7] at f5
        unfold callB at f5
        rw [Bool.and_eq_true,Bool.and_eq_true,Bool.and_eq_true,decide_eq_true_iff,decide_eq_true_iff] at f5
        obtain ⟨j,done',ms,ts,d,g1,rfl,rfl,g2,g3⟩:=FS.many _ n.kids rfl i done st0 h
        obtain ⟨gl,sl⟩:=tok_sign (s:=⟨#[40]⟩) (by simp [signs,opS])
        obtain ⟨gr,sr⟩:=tok_sign (s:=⟨#[41]⟩) (by simp [signs,opS])
        have gn:=tok_name f5.1 f5.2.1
        have hn:n={ Nd.zero with kind:=7,text:=(tkName n.text).text,kids:=n.kids }:=by
         cases n;simp only at e1 e3 e4 c7;subst e1 e3 e4 c7;rfl
        have hsh:=Sh.call j ms n.kids ts d g2 (tkName n.text) _ _ rfl f5.2.2.1 f5.2.2.2 sl sr
        rw [← hn] at hsh
        have := FS.snoc j done' st0 g1 (ms++[n]) _ _ _ _ hsh (by
         intro t ht
         rcases List.mem_cons.1 ht with rfl | ht
         · exact gn
         · rcases List.mem_cons.1 ht with rfl | ht
           · exact gl
           · rcases List.mem_append.1 ht with ht | ht
             · exact g3 t ht
             · simp at ht;subst ht;exact gr)
        rw [List.length_append,List.length_singleton, ← Nat.add_assoc, ← List.append_assoc] at this
        exact this
      · have e2:n.text=⟨#[]⟩:=(f2.resolve_left (by omega)).resolve_left c7
        by_cases c8:n.kind=8
        · have hk:n.kids.length=1:=by
           unfold armsN at ha
           rw [if_neg c1,if_neg c7,if_pos c8] at ha;omega
          obtain ⟨b,hb⟩:∃ b,n.kids=[b]:=by
           match hq:n.kids,hk with
           | [b],_=>exact ⟨b,rfl⟩
          rw [hb] at h
          obtain ⟨j,done',ms,ts,rk',d,g1,rfl,rfl,g2,g3⟩:=h.last
          obtain ⟨d',ts',hw,g4⟩:=wr_tok 4 rk' d ts g3
          obtain ⟨gm,sm⟩:=tok_sign (s:=⟨#[45]⟩) (by simp [signs,opS])
          have hn:n={ Nd.zero with kind:=8,kids:=[b] }:=by
           cases n;simp only at e1 e2 e3 e4 c8 hb;subst e1 e2 e3 e4 c8 hb;rfl
          have hsh:=Sh.neg j ms b ts rk' d g2 _ sm d' ts' hw
          rw [← hn] at hsh
          have:=FS.snoc j done' st0 g1 (ms++[n]) _ _ _ _ hsh (by
           intro t ht
           rcases List.mem_cons.1 ht with rfl | ht
           · exact gm
           · exact g4 t ht)
          rw [List.length_append,List.length_singleton, ← Nat.add_assoc, ← List.append_assoc] at this
          exact this
        · have hk:n.kids.length=2∧9≤n.kind∧n.kind≤19:=by
           unfold armsN at ha
           rw [if_neg c1,if_neg c7,if_neg c8] at ha
           by_cases c9:9≤n.kind∧n.kind≤19
           · rw [if_pos c9] at ha;omega
           · rw [if_neg c9] at ha;omega
          obtain ⟨b,b',hb⟩:∃ b b',n.kids=[b,b']:=by
           match hq:n.kids,hk.1 with
           | [b,b'],_=>exact ⟨b,b',rfl⟩
          rw [hb,show st0++[b,b']=(st0++[b])++[b'] by simp] at h
          obtain ⟨j2,done2,ms2,ts2,rk2,d2,k1,rfl,rfl,k2,k3⟩:=h.last
          obtain ⟨j,done',ms,ts,rk',d,g1,rfl,rfl,g2,g3⟩:=k1.last
          obtain ⟨o,ho,hko⟩:∃ o:Nat,o<11∧n.kind=9+(o:Int):=⟨(n.kind - 9).toNat,by omega,by omega⟩
          obtain ⟨x1,ts',hw,g4⟩:=wr_tok (rk o) rk' d ts g3
          obtain ⟨x2,ts2',hw2,k4⟩:=wr_tok (rk o+1) rk2 d2 ts2 k3
          have hin:opS.getD o ⟨#[]⟩∈signs:=by
           have hlen:o<opS.length:=ho
           rw [List.getD_eq_getElem?_getD,List.getElem?_eq_getElem hlen,Option.getD_some]
           exact List.mem_append_right _ (List.getElem_mem _)
          obtain ⟨gm,sm⟩:=tok_sign hin
          have hn:n={ Nd.zero with kind:=9+(o:Int),kids:=[b,b'] }:=by
           cases n;simp only at e1 e2 e3 e4 hko hb;subst e1 e2 e3 e4 hko hb;rfl
          have hsh:=Sh.op j o ho ms ms2 b b' ts ts2 rk' rk2 d d2 g2 k2 _ sm x1 x2 ts' ts2' hw hw2
          rw [← hn] at hsh
          have:=FS.snoc j done' st0 g1 (ms++(ms2++[n])) _ _ _ _ hsh (by
           intro t ht
           rcases List.mem_append.1 ht with ht | ht
           · exact g4 t ht
           · rcases List.mem_cons.1 ht with rfl | ht
             · exact gm
             · exact k4 t ht)
          have e5:j+(ms++(ms2++[n])).length=j+ms.length+ms2.length+1:=by simp;omega
          have e6:done'++(ms++(ms2++[n]))=done'++ms++ms2++[n]:=by simp
          have e7:j+(ms.length+ms2.length)=j+ms.length+ms2.length:=by omega
          rw [e5,e6,e7] at this
          exact this
   obtain ⟨a,ha'⟩:=tree_fs ns (i+1) (done++[n]) _ hfs h4 (fun m hm'=>hm m (by simp [hm']))
   refine ⟨a, ?_⟩
   rw [List.append_assoc,List.singleton_append] at ha'
   rw [List.length_cons,show i+(ns.length+1)=i+1+ns.length by omega]
   exact ha'
theorem tree_sh {ns:List Nd} (h:treeB ns=true) (hm:∀ n∈ns,n.num≤9223372036854775807):∃ a ts rk d,Sh false 0 ns [a] ts rk d∧∀ t∈ts,Tok t:=by
 obtain ⟨a,ha⟩:=tree_fs ns 0 [] [] .nil h hm
 rw [List.nil_append] at ha
 obtain ⟨j,done,ms,ts,rk,d,h1,h2,h3,h4,h5⟩:=FS.last (st:=[]) ha
 obtain ⟨rfl,rfl⟩:=h1.nil_is rfl
 rw [List.nil_append] at h2
 subst h2
 exact ⟨a,ts,rk,d,h4,h5⟩
def AtE (n deep base:Nat) (ts:List Tk):Prop :=
 if n≤4 then ∃ f,exprP f n deep base ts=some (.error 6) else ∃ f,primP f deep base ts=some (.error 6)
def GoesE (n deep base:Nat) (ts:List Tk):Prop :=
 AtE (n+1) deep base ts∨∃ ns1 a1 r1 g,At (n+1) deep base ts ns1 a1 r1∧rowP g n deep base ns1 a1 r1=some (.error 6)
theorem GoesE.at {n deep base:Nat} {ts:List Tk} (hn:n≤3) (h:GoesE n deep base ts):AtE n deep base ts:=by
 rcases h with h | ⟨ns1,a1,r1,g,h1,h2⟩
 · unfold AtE at h ⊢
   rw [if_pos (by omega)] at h ⊢
   obtain ⟨f,hf⟩:=h
   exact ⟨f+1,by rw [exprP_succ,if_pos hn,hf];rfl⟩
 · unfold At at h1
   unfold AtE
   rw [if_pos (by omega)] at h1 ⊢
   obtain ⟨f,hf⟩:=h1
   refine ⟨max f g+1, ?_⟩
   rw [exprP_succ,if_pos hn,exprP_more (Nat.le_max_left f g) hf]
   exact rowP_more (Nat.le_max_right f g) h2
theorem AtE.down {deep base:Nat} {ts:List Tk} (n:Nat):∀ (k:Nat),n+k≤5→AtE (n+k) deep base ts→(n+k=5→signIs ⟨#[45]⟩ ts=false)→AtE n deep base ts
 | 0,_,h,_=>h
 | k + 1,hk,h,hm=>by
   have h1:AtE (n+k) deep base ts:=by
    by_cases c:n+(k+1)=5
    · have hs:=hm c
      rw [c] at h
      rw [show n+k=4 by omega]
      unfold AtE at h ⊢
      rw [if_neg (by omega)] at h
      rw [if_pos (by omega)]
      obtain ⟨f,hf⟩:=h
      exact ⟨f+1,by rw [exprP_succ,if_neg (by omega),hs,if_neg (by simp)];exact hf⟩
    · exact GoesE.at (by omega) (.inl h)
   exact AtE.down n k (by omega) h1 (fun h=>by omega)
structure Far (base:Nat) (ts:List Tk) (rk d:Nat):Prop where
 high:∀ deep rest,deep≤12→12<deep+d→signIs ⟨#[58]⟩ rest=false→4≤rk→AtE rk deep base (ts++rest)
 low:∀ deep rest,deep≤12→12<deep+d→signIs ⟨#[58]⟩ rest=false→rk≤3→Stop (rk+1) rest→GoesE rk deep base (ts++rest)
structure Both (base:Nat) (ns:List Nd) (a:Nat) (ts:List Tk) (rk d:Nat):Prop where
 back:Back base ns a ts rk d
 far:Far base ts rk d
theorem Both.at {base:Nat} {ns:List Nd} {a:Nat} {ts:List Tk} {rk d:Nat} (h:Both base ns a ts rk d) (n deep:Nat) (rest:List Tk) (hn:n≤rk) (hd:deep≤12) (hf:12<deep+d) (hc:signIs ⟨#[58]⟩ rest=false) (hs:Stop n rest) :
 AtE n deep base (ts++rest):=by
 have hle:=h.back.le
 have h1:AtE rk deep base (ts++rest):=by
  by_cases c:4≤rk
  · exact h.far.high deep rest hd hf hc c
  · exact GoesE.at (by omega) (h.far.low deep rest hd hf hc (by omega) (hs.more (by omega)))
 refine AtE.down n (rk - n) (by omega) ?_ (fun e=>h.back.minus (by omega) rest)
 rwa [show n+(rk - n)=rk by omega]
theorem Both.goes {base:Nat} {ns:List Nd} {a:Nat} {ts:List Tk} {rk d:Nat} (h:Both base ns a ts rk d) (n deep:Nat) (rest:List Tk) (hn:n≤rk) (hn3:n≤3) (hd:deep≤12) (hf:12<deep+d) (hc:signIs ⟨#[58]⟩ rest=false) (hs:Stop (n+1) rest) :
 GoesE n deep base (ts++rest):=by
 by_cases c:n=rk
 · subst c;exact h.far.low deep rest hd hf hc hn3 hs
 · exact .inl (h.at (n+1) deep rest (by omega) hd hf hc hs)
theorem Both.wr {base:Nat} {ns:List Nd} {a:Nat} {ts:List Tk} {rk d n d':Nat} {ts':List Tk} (h:Both base ns a ts rk d) (hw:Wr n rk d ts d' ts') (hn:n≤5):∃ rk',n≤rk'∧Both base ns a ts' rk' d':=by
 rcases hw with ⟨h1,rfl,rfl⟩ | ⟨h1,rfl,l,r,hl,hr,rfl⟩
 · exact ⟨rk,h1,h⟩
 · refine ⟨5,hn,h.back.brk hl hr,⟨fun deep rest hd hf hc _ => ?_,fun deep rest _ _ _ h=>by omega⟩⟩
   unfold AtE
   rw [if_neg (by omega)]
   by_cases c:12≤deep
   · exact ⟨1,by rw [List.cons_append,primP_cons,hl.sign,if_pos (by decide),if_pos c]⟩
   · have h1:=h.at 0 (deep+1) (r :: rest) (by omega) (by omega) (by omega) (by rw [hr.sign];decide) (stop_sign hr rest (by decide) 0)
     unfold AtE at h1
     rw [if_pos (by omega)] at h1
     obtain ⟨f,hf⟩:=h1
     exact ⟨f+1,by rw [List.cons_append,primP_cons,hl.sign,if_pos (by decide),if_neg c,List.append_assoc,List.singleton_append,hf];rfl⟩
def FarA (base:Nat) (ts:List Tk) (d:Nat):Prop :=
 ∀ deep rest,deep≤12→12<deep+d→signIs ⟨#[58]⟩ rest=false→Stop 0 rest→∃ g,argsP g deep base [] [] (ts++rest)=some (.error 6)
theorem sh_far {b:Bool} {base:Nat} {ns:List Nd} {ks:List Int} {ts:List Tk} {rq d:Nat} (h:Sh b base ns ks ts rq d) :
 (b=false→∃ a:Nat,ks=[(a:Int)]∧Both base ns a ts rq d)∧(b=true→BackA base ns ks ts d∧FarA base ts d):=by
 induction h with
 | leaf base ts nd h =>
   refine ⟨fun _=>⟨base,rfl,back_leaf h,⟨fun deep rest h1 h2=>by omega,fun deep rest h1 h2=>by omega⟩⟩,fun h=>by cases h⟩
 | neg base ns a ts rk d h m hm d' ts' hw ih =>
   refine ⟨fun _ => ?_,fun h=>by cases h⟩
   obtain ⟨a',e,hb⟩:=ih.1 rfl
   obtain rfl:a=(a':Int):=by simpa using e
   obtain ⟨rk',h1,hb'⟩:=hb.wr hw (by omega)
   refine ⟨_,rfl,back_neg hb'.back hm h1,⟨fun deep rest hd hf hc _ => ?_,fun deep rest _ _ _ h=>by omega⟩⟩
   unfold AtE
   rw [if_pos (by omega)]
   by_cases c:12≤deep
   · exact ⟨1,by rw [List.cons_append,exprP_succ,if_neg (by omega),hm.sign,if_pos (by decide),if_pos c]⟩
   · have h2:=hb'.at 4 (deep+1) rest h1 (by omega) (by omega) hc (stop_four _)
     unfold AtE at h2
     rw [if_pos (by omega)] at h2
     obtain ⟨f,hf'⟩:=h2
     exact ⟨f+1,by rw [List.cons_append,exprP_succ,if_neg (by omega),hm.sign,if_pos (by decide),if_neg c,List.tail_cons,hf'];rfl⟩
 | op base o ho ns ms a b ts us rk1 rk2 d1 d2 h g s hs e1 e2 ts' us' hw gw ih ig =>
   refine ⟨fun _ => ?_,fun h=>by cases h⟩
   have hr:=rk_le o
   obtain ⟨a',e,hb⟩:=ih.1 rfl
   obtain rfl:a=(a':Int):=by simpa using e
   obtain ⟨b',e',gb⟩:=ig.1 rfl
   obtain rfl:b=(b':Int):=by simpa using e'
   obtain ⟨r1,h1,hb'⟩:=hb.wr hw (by omega)
   obtain ⟨r2,h2,gb'⟩:=gb.wr gw (by omega)
   refine ⟨_,rfl,back_op ho hb'.back gb'.back hs h1 h2,⟨fun deep rest _ _ _ e=>by omega,fun deep rest hd hf hc _ hst => ?_⟩⟩
   have hcol:signIs ⟨#[58]⟩ (s :: (us'++rest))=false:=by rw [hs.sign];exact decide_eq_false (op_colon o ho)
   rw [List.append_assoc,List.cons_append]
   by_cases c:12<deep+e1
   · exact hb'.goes (rk o) deep _ h1 hr hd c hcol (stop_op ho hs _)
   · obtain ⟨ns1,a1,q1,k1,k2⟩:=hb'.back.goes (rk o) deep (s :: (us'++rest)) h1 hr (by omega) hcol (stop_op ho hs _)
     have k3:=gb'.at (rk o+1) deep rest h2 hd (by omega) hc hst
     unfold AtE at k3
     rw [if_pos (by omega)] at k3
     obtain ⟨f,hf'⟩:=k3
     obtain ⟨g',hg'⟩:=k2 (f+1) (.error 6) (by rw [rowP_succ,opK_sign s _ o ho hs.1 hs.2 _ hr,if_pos rfl,if_neg (by omega),List.tail_cons,hf'];rfl)
     exact .inr ⟨ns1,a1,q1,g',k1,hg'⟩
 | call base ns ks ts d h t l r ht h1 h2 hl hr ih =>
   refine ⟨fun _ => ?_,fun h=>by cases h⟩
   obtain ⟨hb,hfa⟩:=ih.2 rfl
   refine ⟨_,rfl,back_call hb ht h1 h2 hl hr,⟨fun deep rest hd hf hc _ => ?_,fun deep rest _ _ _ h=>by omega⟩⟩
   have hs:∀ (s:ByteArray) (us:List Tk),signIs s (t :: us)=false:=by
    intro s us;unfold signIs;simp only [ht];rfl
   unfold AtE
   rw [if_neg (by omega)]
   by_cases c:12≤deep
   · refine ⟨1, ?_⟩
     rw [List.cons_append,List.cons_append,List.append_assoc,List.singleton_append,primP_cons,hs,if_neg (by simp),if_neg (by omega),if_neg (by omega),if_neg (by omega),if_neg (by omega),if_pos ht,if_neg h1,if_neg h2,hl.sign,if_pos (by decide),if_pos c]
   · obtain ⟨f,hf'⟩:=hfa (deep+1) (r :: rest) (by omega) (by omega) (by rw [hr.sign];decide) (stop_sign hr rest (by decide) 0)
     have hcl:signIs ⟨#[41]⟩ (ts++r :: rest)=false:=by
      rcases hb with ⟨_,_,rfl,hd0⟩ | ⟨_,g1,_⟩
      · omega
      · exact g1 _
     refine ⟨f+1, ?_⟩
     rw [List.cons_append,List.cons_append,List.append_assoc,List.singleton_append,primP_cons,hs,if_neg (by simp),if_neg (by omega),if_neg (by omega),if_neg (by omega),if_neg (by omega),if_pos ht,if_neg h1,if_neg h2,hl.sign,if_pos (by decide),if_neg c,List.tail_cons,hcl,if_neg (by simp),hf']
     rfl
 | none base=>exact ⟨fun h=>(by cases h),fun _=>⟨.inl ⟨rfl,rfl,rfl,rfl⟩,fun deep rest h1 h2=>by omega⟩⟩
 | one base ns a ts rk d h ih =>
   refine ⟨fun h=>(by cases h),fun _ => ?_⟩
   obtain ⟨a',e,hb⟩:=ih.1 rfl
   obtain rfl:a=(a':Int):=by simpa using e
   refine ⟨back_one hb.back,fun deep rest hd hf hc hs => ?_⟩
   have h1:=hb.at 0 deep rest (by omega) hd hf hc hs
   unfold AtE at h1
   rw [if_pos (by omega)] at h1
   obtain ⟨f,hf'⟩:=h1
   exact ⟨f+1,by rw [argsP_succ,List.length_nil,Nat.add_zero,hf'];rfl⟩
 | and base ns ms ks b ts us rk d1 d2 h hk c hc g ih ig =>
   refine ⟨fun h=>(by cases h),fun _ => ?_⟩
   obtain ⟨hb,hfa⟩:=ih.2 rfl
   obtain ⟨b',e,gb⟩:=ig.1 rfl
   obtain rfl:b=(b':Int):=by simpa using e
   refine ⟨back_and hb hk hc gb.back,fun deep rest hd hf hcol hs => ?_⟩
   rw [List.append_assoc,List.cons_append]
   have hc1:signIs ⟨#[58]⟩ (c :: (us++rest))=false:=by rw [hc.sign];decide
   have hs1:=stop_sign hc (us++rest) (by decide) 0
   by_cases c1:12<deep+d1
   · exact hfa deep _ hd c1 hc1 hs1
   · rcases hb with ⟨h,_⟩ | ⟨_,_,h2⟩
     · exact absurd h hk
     · have k1:=gb.at 0 deep rest (by omega) hd (by omega) hcol hs
       unfold AtE at k1
       rw [if_pos (by omega)] at k1
       obtain ⟨f,hf'⟩:=k1
       exact h2 deep _ (by omega) hc1 hs1 (f+1) (.error 6) (by rw [hc.sign,if_pos (by decide),List.tail_cons,argsP_succ,hf'];rfl)
theorem sh_deep {ns:List Nd} {a:Int} {ts:List Tk} {rk d:Nat} (h:Sh false 0 ns [a] ts rk d) (hd:12<d) (e:Tk) (he:e.kind=0):∃ f,parseP f (ts++[e])=some (.error 6):=by
 obtain ⟨a',_,hb⟩:=(sh_far h).1 rfl
 have hsg:∀ s:ByteArray,signIs s [e]=false:=by intro s;unfold signIs;simp only [he];rfl
 have h1:=hb.at 0 0 [e] (by omega) (by omega) (by omega) (hsg _) (by
  intro m _ _
  unfold opK
  have hf:(levelL m).find? (fun p=>signIs p.1 [e])=none:=by
   rw [List.find?_eq_none];intro p _;rw [hsg];simp
  rw [hf])
 unfold AtE at h1
 rw [if_pos (by omega)] at h1
 obtain ⟨f,hf⟩:=h1
 exact ⟨f,by unfold parseP;rw [hf];rfl⟩
theorem tree_print {ns:List Nd} (h:treeB ns=true) (hm:∀ n∈ns,n.num≤9223372036854775807):∃ vs g,lexL (printL ns)=some vs∧(parseP g vs=some (.ok ns)∨parseP g vs=some (.error 6)):=by
 obtain ⟨a,ts,rk,d,h1,h2⟩:=tree_sh h hm
 rw [sh_print h1 h]
 by_cases hd:d≤12
 · obtain ⟨vs,g,k1,k2⟩:=sh_text h1 hd h2
   exact ⟨vs,g,k1,.inl k2⟩
 · obtain ⟨vs,e,k1,k2,k3⟩:=lex_sep ts 0 ((sh_sq h1).1 rfl).1 h2
   obtain ⟨g,hg⟩:=sh_deep (h1.goto vs k3) (by omega) e k2
   exact ⟨vs++[e],g,k1,.inr hg⟩
theorem tree_ne {ns:List Nd} (h:treeB ns=true) (hm:∀ n∈ns,n.num≤9223372036854775807):printL ns≠[]:=by
 obtain ⟨a,ts,rk,d,h1,h2⟩:=tree_sh h hm
 rw [sh_print h1 h]
 obtain ⟨_,⟨t,l,rfl,_⟩,_⟩:=(sh_sq h1).1 rfl
 obtain ⟨x,k,e,_⟩:=tok_head (h2 t (by simp))
 rw [txL_cons,e];simp
theorem tree_at {l:List Nd} (h:treeB l=true) {i:Int} (h0:0≤i) (h1:i<l.length):nodeB (nodeAt l i)=true∧∀ k∈(nodeAt l i).kids,0≤k∧k<i:=by
 have hi:i.toNat<l.length:=by omega
 have hn:l[i.toNat]? = some (nodeAt l i):=by
  unfold nodeAt;rw [List.getD_eq_getElem?_getD,List.getElem?_eq_getElem hi];rfl
 have:=tree_kids l [] 0 (by intro k hk;simp at hk) h i.toNat _ hn
 refine ⟨this.1,fun k hk => ?_⟩
 have:=this.2 k hk
 omega
theorem arms_kids {n:Nd} (h:nodeB n=true):(n.kind=8→n.kids.length=1)∧(9≤n.kind→n.kids.length=2)∧(1≤n.kind∧n.kind≤6→n.kids=[])∧1≤n.kind∧n.kind≤19∧leafB n=true:=by
 unfold nodeB at h
 rw [Bool.and_eq_true,Bool.or_eq_true,decide_eq_true_iff,decide_eq_true_iff] at h
 obtain ⟨h1,h2⟩:=h
 unfold armsN at h2
 split at h2
 · refine ⟨by omega,by omega,fun _ => ?_,by omega,by omega,h1⟩
   apply List.eq_nil_of_length_eq_zero
   omega
 · split at h2
   · exact ⟨by omega,by omega,by omega,by omega,by omega,h1⟩
   · split at h2
     · exact ⟨by omega,by omega,by omega,by omega,by omega,h1⟩
     · split at h2
       · exact ⟨by omega,by omega,by omega,by omega,by omega,h1⟩
       · omega
theorem kid_at {n:Nd} {j:Nat} (h:j<n.kids.length):n.kids.getD j 0∈n.kids:=by
 rw [List.getD_eq_getElem?_getD,List.getElem?_eq_getElem h];exact List.getElem_mem h
theorem shown_stab {l:List Nd} (h:treeB l=true):∀ (m f g:Nat) (i:Int),0≤i→i<l.length→i.toNat<m→i<f→i<g→shownL f l i=shownL g l i
 | 0,_,_,_,_,_,hm,_,_=>by omega
 | m + 1, f,g,i,h0,h1,hm,hf,hg=>by
   obtain ⟨f,rfl⟩:∃ f',f=f'+1:=⟨f - 1,by omega⟩
   obtain ⟨g,rfl⟩:∃ g',g=g'+1:=⟨g - 1,by omega⟩
   obtain ⟨hn,hk⟩:=tree_at h h0 h1
   have ih:∀ k∈(nodeAt l i).kids,shownL f l k=shownL g l k:=fun k hkm=>by
    have:=hk k hkm
    exact shown_stab h m f g k this.1 (by omega) (by omega) (by omega) (by omega)
   obtain ⟨a1,a2,_,_,_,_⟩:=arms_kids hn
   rw [shown_succ f l i _ rfl,shown_succ g l i _ rfl]
   by_cases k7:(nodeAt l i).kind=7
   · have:(nodeAt l i).kids.map (shownL f l)=(nodeAt l i).kids.map (shownL g l):=List.map_congr_left ih
     simp only [k7,this,reduceIte,Int.reduceEq]
   · by_cases k8:(nodeAt l i).kind=8
     · have e0:=ih _ (kid_at (j:=0) (by rw [a1 k8];omega))
       simp only [k8,e0,reduceIte,Int.reduceEq]
     · by_cases k9:9≤(nodeAt l i).kind
       · have e0:=ih _ (kid_at (j:=0) (by rw [a2 k9];omega))
         have e1:=ih _ (kid_at (j:=1) (by rw [a2 k9];omega))
         simp only [k7,if_false,e0,e1]
       · have:∀ k:Int,k≤8→k≠7→k≠8→1≤k→k=1∨k=2∨k=3∨k=4∨k=5∨k=6:=by omega
         rcases this (nodeAt l i).kind (by omega) k7 k8 (by omega) with e | e | e | e | e | e <;> simp [e]
def shN (l:List Nd) (i:Int):List Int:=shownL l.length l i
theorem shN_eq {l:List Nd} (h:treeB l=true) {i:Int} (h0:0≤i) (h1:i<l.length) (n:Nd) (hn:nodeAt l i=n):shN l i =
 if n.kind=1 then digL n.num.toNat
 else if n.kind=2 then 34 :: (dblL (sb n.text)++[34])
 else if n.kind=3 then (if n.num=1 then [84,82,85,69] else [70,65,76,83,69])
 else if n.kind=4 then [35,82,69,70,33]
 else if n.kind=5 then textL (sb n.ref.sh) n.ref.c n.ref.r n.ref.ac n.ref.ar
 else if n.kind=6 then textL (sb n.ref.sh) n.ref.c n.ref.r n.ref.ac n.ref.ar++58 :: textL (sb n.to.sh) n.to.c n.to.r n.to.ac n.to.ar
 else if n.kind=7 then sb n.text++40 :: (joinA (n.kids.map (shN l))++[41])
 else if n.kind=8 then 45 :: inL (decide (rankL (nodeAt l (n.kids.getD 0 0)).kind<4)) (shN l (n.kids.getD 0 0))
 else inL (decide (rankL (nodeAt l (n.kids.getD 0 0)).kind<rankL n.kind)) (shN l (n.kids.getD 0 0)) ++
  (opL (n.kind - 9).toNat++inL (decide (rankL (nodeAt l (n.kids.getD 1 0)).kind≤rankL n.kind)) (shN l (n.kids.getD 1 0))):=by
 have:=shown_stab h (i.toNat+1) l.length (l.length+1) i h0 h1 (by omega) h1 (by omega)
 unfold shN
 rw [this,shown_succ l.length l i n hn]
structure Pt where
 t:ByteArray
 node:Int
 least:Int
def Pt.plain (t:ByteArray):Pt:=⟨t,0,0⟩
def Pt.op (node least:Int):Pt:=⟨⟨#[]⟩,node,least⟩
def ptL (l:List Nd) (p:Pt):List Int:=if p.t=⟨#[]⟩ then inL (decide ((rankL (nodeAt l p.node).kind:Int)+1<p.least)) (shN l p.node) else sb p.t
def PtOk (l:List Nd) (p:Pt):Prop:=p.t=⟨#[]⟩→0≤p.node∧p.node<l.length
theorem ptL_op (l:List Nd) (i m:Int):ptL l (Pt.op i m)=inL (decide ((rankL (nodeAt l i).kind:Int)+1<m)) (shN l i):=by
 unfold ptL;rw [if_pos (show (Pt.op i m).t=⟨#[]⟩ from rfl)];rfl
theorem ptL_plain (l:List Nd) (t:ByteArray) (h:t≠⟨#[]⟩):ptL l (Pt.plain t)=sb t:=by
 unfold ptL;rw [if_neg (show ¬ (Pt.plain t).t=⟨#[]⟩ from h)];rfl
theorem PtOk.plain (l:List Nd) (t:ByteArray) (h:t≠⟨#[]⟩):PtOk l (Pt.plain t):=fun e=>absurd e h
theorem PtOk.op {l:List Nd} {i:Int} (h0:0≤i) (h1:i<l.length) (m:Int):PtOk l (Pt.op i m):=fun _=>⟨h0,h1⟩
def argP:List Int→List Pt
 | []=>[]
 | [a]=>[Pt.op a 1]
 | a :: b :: ks=>Pt.op a 1 :: Pt.plain ⟨#[44]⟩ :: argP (b :: ks)
theorem inL_any (l:List Nd) (i:Int):inL (decide ((rankL (nodeAt l i).kind:Int)+1<1)) (shN l i)=shN l i:=by
 rw [decide_eq_false (by omega)];rfl
theorem argP_L (l:List Nd):∀ ks:List Int,(argP ks).flatMap (ptL l)=joinA (ks.map (shN l))
 | []=>rfl
 | [a]=>by
   show ptL l (Pt.op a 1)++[]=shN l a
   rw [List.append_nil,ptL_op,inL_any]
 | a :: b :: ks=>by
   have ih:=argP_L l (b :: ks)
   show ptL l (Pt.op a 1)++(ptL l (Pt.plain ⟨#[44]⟩)++(argP (b :: ks)).flatMap (ptL l))=shN l a++44 :: joinA ((b :: ks).map (shN l))
   rw [ih,ptL_op,inL_any,ptL_plain l _ (by decide)];rfl
def stepN (n:Nd):List Int × List Pt :=
 if n.kind=1 then (digL n.num.toNat,[])
 else if n.kind=2 then (34 :: (dblL (sb n.text)++[34]),[])
 else if n.kind=3 then ((if n.num=1 then [84,82,85,69] else [70,65,76,83,69]),[])
 else if n.kind=4 then ([35,82,69,70,33],[])
 else if n.kind=5 then (textL (sb n.ref.sh) n.ref.c n.ref.r n.ref.ac n.ref.ar,[])
 else if n.kind=6 then (textL (sb n.ref.sh) n.ref.c n.ref.r n.ref.ac n.ref.ar++58 :: textL (sb n.to.sh) n.to.c n.to.r n.to.ac n.to.ar,[])
 else if n.kind=7 then (sb n.text++[40],argP n.kids++[Pt.plain ⟨#[41]⟩])
 else if n.kind=8 then ([45],[Pt.op (n.kids.getD 0 0) 5])
 else ([],[Pt.op (n.kids.getD 0 0) ((rankL n.kind:Int)+1),Pt.plain (opS.getD (n.kind - 9).toNat ⟨#[]⟩),Pt.op (n.kids.getD 1 0) ((rankL n.kind:Int)+2)])
theorem dec_eq {p q:Prop} [Decidable p] [Decidable q] (h:p↔q):decide p=decide q:=by rw [decide_eq_decide];exact h
theorem opS_ne:∀ o:Nat,o<11→opS.getD o ⟨#[]⟩≠⟨#[]⟩:=by decide
theorem stepN_L {l:List Nd} (h:treeB l=true) {i:Int} (h0:0≤i) (h1:i<l.length) (n:Nd) (hn:nodeAt l i=n):shN l i=(stepN n).1++(stepN n).2.flatMap (ptL l):=by
 obtain ⟨hnb, -⟩:=tree_at h h0 h1
 rw [hn] at hnb
 obtain ⟨-, -, -,b1,b2, -⟩:=arms_kids hnb
 rw [shN_eq h h0 h1 n hn]
 unfold stepN
 split
 · simp
 split
 · simp
 split
 · simp
 split
 · simp
 split
 · simp
 split
 · simp
 split
 · rw [List.flatMap_append,argP_L,List.flatMap_cons,List.flatMap_nil,ptL_plain l _ (by decide)]
   simp only [List.append_assoc,List.cons_append,List.nil_append,List.append_nil]
   rfl
 split
 · rw [List.flatMap_cons,List.flatMap_nil,ptL_op,List.append_nil,dec_eq (show (rankL (nodeAt l (n.kids.getD 0 0)).kind<4↔(rankL (nodeAt l (n.kids.getD 0 0)).kind:Int)+1<5) by omega)]
   rfl
 · have ho:(n.kind - 9).toNat<11:=by omega
   rw [List.flatMap_cons,List.flatMap_cons,List.flatMap_cons,List.flatMap_nil,ptL_op,ptL_op,ptL_plain l _ (opS_ne _ ho),(op_rank _ ho).2,List.append_nil,List.nil_append,
    dec_eq (show (rankL (nodeAt l (n.kids.getD 0 0)).kind<rankL n.kind↔(rankL (nodeAt l (n.kids.getD 0 0)).kind:Int)+1<(rankL n.kind:Int)+1) by omega),
    dec_eq (show (rankL (nodeAt l (n.kids.getD 1 0)).kind≤rankL n.kind↔(rankL (nodeAt l (n.kids.getD 1 0)).kind:Int)+1<(rankL n.kind:Int)+2) by omega)]
theorem argP_ok {l:List Nd}:∀ ks:List Int,(∀ k∈ks,0≤k∧k<(l.length:Int))→∀ p∈argP ks,PtOk l p
 | [],_,p,hp=>by simp [argP] at hp
 | [a],h,p,hp=>by
   simp [argP] at hp;subst hp
   exact PtOk.op (h a (by simp)).1 (h a (by simp)).2 1
 | a :: b :: ks,h,p,hp=>by
   simp only [argP,List.mem_cons] at hp
   rcases hp with rfl | rfl | hp
   · exact PtOk.op (h a (by simp)).1 (h a (by simp)).2 1
   · exact PtOk.plain l _ (by decide)
   · exact argP_ok (b :: ks) (fun k hk=>h k (List.mem_cons_of_mem _ hk)) p hp
theorem stepN_ok {l:List Nd} (h:treeB l=true) {i:Int} (h0:0≤i) (h1:i<l.length) (n:Nd) (hn:nodeAt l i=n):∀ p∈(stepN n).2,PtOk l p:=by
 obtain ⟨hnb,hk⟩:=tree_at h h0 h1
 rw [hn] at hnb hk
 obtain ⟨a1,a2, -,b1,b2, -⟩:=arms_kids hnb
 have hkl:∀ k∈n.kids,0≤k∧k<(l.length:Int):=fun k hkm=>by have:=hk k hkm;omega
 intro p hp
 unfold stepN at hp
 split at hp
 · simp at hp
 split at hp
 · simp at hp
 split at hp
 · simp at hp
 split at hp
 · simp at hp
 split at hp
 · simp at hp
 split at hp
 · simp at hp
 split at hp
 · rcases List.mem_append.1 hp with hp | hp
   · exact argP_ok _ hkl p hp
   · rw [List.mem_singleton.1 hp];exact PtOk.plain l _ (by decide)
 split at hp
 · rename_i k8
   rw [List.mem_singleton.1 hp]
   have:=hkl _ (kid_at (n:=n) (j:=0) (by rw [a1 k8];omega))
   exact PtOk.op this.1 this.2 5
 · have k9:9≤n.kind:=by omega
   have g0:=hkl _ (kid_at (n:=n) (j:=0) (by rw [a2 k9];omega))
   have g1:=hkl _ (kid_at (n:=n) (j:=1) (by rw [a2 k9];omega))
   simp only [List.mem_cons,List.not_mem_nil,or_false] at hp
   rcases hp with rfl | rfl | rfl
   · exact PtOk.op g0.1 g0.2 _
   · exact PtOk.plain l _ (opS_ne _ (by omega))
   · exact PtOk.op g1.1 g1.2 _
def stepP (l:List Nd) (p:Pt):List Int × List Pt :=
 if p.t=⟨#[]⟩ then (if (rankL (nodeAt l p.node).kind:Int)+1<p.least then (40 :: (stepN (nodeAt l p.node)).1,(stepN (nodeAt l p.node)).2++[Pt.plain ⟨#[41]⟩]) else stepN (nodeAt l p.node)) else (sb p.t,[])
theorem stepP_L {l:List Nd} (h:treeB l=true) (p:Pt) (hp:PtOk l p):ptL l p=(stepP l p).1++(stepP l p).2.flatMap (ptL l):=by
 rw [show ptL l p=if p.t=⟨#[]⟩ then inL (decide ((rankL (nodeAt l p.node).kind:Int)+1<p.least)) (shN l p.node) else sb p.t from rfl]
 unfold stepP
 by_cases ht:p.t=⟨#[]⟩
 · obtain ⟨h0,h1⟩:=hp ht
   rw [if_pos ht,if_pos ht,stepN_L h h0 h1 _ rfl]
   by_cases hr:(rankL (nodeAt l p.node).kind:Int)+1<p.least
   · rw [if_pos hr,decide_eq_true hr,List.flatMap_append,List.flatMap_cons,List.flatMap_nil,ptL_plain l _ (by decide)]
     show 40 :: (((stepN (nodeAt l p.node)).1++(stepN (nodeAt l p.node)).2.flatMap (ptL l))++[41])=_
     simp only [List.append_assoc,List.cons_append,List.append_nil];rfl
   · rw [if_neg hr,decide_eq_false hr];rfl
 · rw [if_neg ht,if_neg ht];simp
theorem stepP_ok {l:List Nd} (h:treeB l=true) (p:Pt) (hp:PtOk l p):∀ q∈(stepP l p).2,PtOk l q:=by
 unfold stepP
 by_cases ht:p.t=⟨#[]⟩
 · obtain ⟨h0,h1⟩:=hp ht
   rw [if_pos ht]
   have:=stepN_ok h h0 h1 _ rfl
   by_cases hr:(rankL (nodeAt l p.node).kind:Int)+1<p.least
   · rw [if_pos hr]
     intro q hq
     rcases List.mem_append.1 hq with hq | hq
     · exact this q hq
     · rw [List.mem_singleton.1 hq];exact PtOk.plain l _ (by decide)
   · rw [if_neg hr];exact this
 · rw [if_neg ht];intro q hq;simp at hq
theorem textL_ne {sh:List Int} {c r:Int} {ac ar:Bool} (h:mayL sh c r=true):textL sh c r ac ar≠[]:=by
 unfold textL
 rw [if_pos h]
 intro e
 exact digL_ne _ (List.append_eq_nil_iff.1 e).2
theorem inL_ne {b:Bool} {t:List Int} (h:t≠[]):inL b t≠[]:=by
 unfold inL;split
 · simp
 · exact h
theorem sb_ne {t:ByteArray} (h:t≠⟨#[]⟩):sb t≠[]:=by
 intro e
 apply h
 have h1:=length_sb t
 rw [e] at h1
 have h1:t.size=0:=h1.symm
 cases t with
 | mk d =>
   have:d=#[]:=Array.eq_empty_of_size_eq_zero h1
   rw [this]
theorem opL_ne:∀ o:Nat,o<11→opL o≠[]:=by decide
theorem leaf_ref {n:Nd} (h:leafB n=true) (hk:n.kind=5):mayRf n.ref=true:=by
 unfold leafB at h
 split at h
 · cases h
 · simpa [hk] using h
theorem shN_ne {l:List Nd} (h:treeB l=true) {i:Int} (h0:0≤i) (h1:i<l.length):shN l i≠[]:=by
 obtain ⟨hnb, -⟩:=tree_at h h0 h1
 obtain ⟨-, -, -,b1,b2,hl⟩:=arms_kids hnb
 rw [shN_eq h h0 h1 _ rfl]
 split
 · exact digL_ne _
 split
 · simp
 split
 · split <;> simp
 split
 · simp
 split
 · exact textL_ne (leaf_ref hl ‹_›)
 split
 · simp
 split
 · simp
 split
 · simp
 · have:=opL_ne (((nodeAt l i).kind - 9).toNat) (by omega)
   simp [this]
theorem ptL_ne {l:List Nd} (h:treeB l=true) (p:Pt) (hp:PtOk l p):ptL l p≠[]:=by
 unfold ptL
 by_cases ht:p.t=⟨#[]⟩
 · obtain ⟨h0,h1⟩:=hp ht
   rw [if_pos ht];exact inL_ne (shN_ne h h0 h1)
 · rw [if_neg ht];exact sb_ne ht
theorem flat_len {l:List Nd} (h:treeB l=true):∀ ps:List Pt,(∀ p∈ps,PtOk l p)→ps.length≤(ps.flatMap (ptL l)).length
 | [],_=>Nat.le_refl _
 | p :: ps,hp=>by
   have ih:=flat_len h ps fun q hq=>hp q (List.mem_cons_of_mem _ hq)
   have h1:=List.length_pos_iff.2 (ptL_ne h p (hp p (by simp)))
   rw [List.flatMap_cons,List.length_append,List.length_cons];omega
theorem digL_len:∀ (k u:Nat),u<10 ^ (k+1)→(digL u).length≤k+1
 | 0,u,h=>by rw [digL_small u (by simpa using h)];simp
 | k + 1,u,h=>by
   by_cases h1:u<10
   · rw [digL_small u h1];simp
   · rw [digL_more u h1,List.length_append,List.length_singleton]
     have:=digL_len k (u / 10) (by rw [Nat.pow_succ] at h;omega)
     omega
theorem colL_len (n:Int):(colL n).length≤2:=by
 unfold colL
 split
 · simp
 · split <;> simp
theorem textL_len (sh:List Int) (c r:Int) (ac ar:Bool):(textL sh c r ac ar).length≤sh.length+8:=by
 unfold textL
 split
 · rename_i h
   unfold mayL at h
   rw [Bool.and_eq_true,decide_eq_true_iff] at h
   have h1:=digL_len 2 (r+1).toNat (by omega)
   have h2:=colL_len c
   have h3:(if sh=[] then ([]:List Int) else sh++[33]).length≤sh.length+1:=by split <;> simp
   have h4:∀ b:Bool,(if b=true then [(36:Int)] else []).length≤1:=by intro b;split <;> simp
   have h5:=h4 ac
   have h6:=h4 ar
   simp only [List.length_append]
   omega
 · simp
theorem dblL_len:∀ l:List Int,(dblL l).length≤2*l.length
 | []=>Nat.le_refl _
 | x :: l=>by
   have:=dblL_len l
   show ((if x=34 then [34,34] else [x])++dblL l).length≤_
   rw [List.length_append,List.length_cons]
   have:(if x=34 then [34,34] else [x]:List Int).length≤2:=by split <;> simp
   omega
def wN (n:Nd):Nat:=2*n.text.size+n.ref.sh.size+n.to.sh.size+60
def sumN (ns:List Nd):Nat:=(ns.map wN).sum
theorem sumN_app (a b:List Nd):sumN (a++b)=sumN a+sumN b:=by unfold sumN;simp
theorem sumN_one (n:Nd):sumN [n]=wN n:=by unfold sumN;simp
theorem txL_one (t:Tk) (ts:List Tk):(txL (t :: ts)).length=(txK t).length+(txL ts).length:=by rw [txL_cons,List.length_append]
theorem txL_nil:txL []=[]:=rfl
theorem wr_len {n rk d d':Nat} {ts ts':List Tk} (h:Wr n rk d ts d' ts'):(txL ts').length≤(txL ts).length+2:=by
 rw [txL_wr h];unfold inL;split
 · simp
 · omega
theorem leaf_len {ts:List Tk} {nd:Nd} (h:LeafS ts nd) (hm:nd.num≤9223372036854775807):(txL ts).length+4≤wN nd:=by
 cases h with
 | num t h =>
   have hm:t.num≤9223372036854775807:=hm
   have h1:=digL_len 18 t.num.toNat (by omega)
   rw [txL_one,txL_nil]
   unfold txK wN
   rw [if_pos h,List.length_nil];omega
 | text t h =>
   have h1:=dblL_len (sb t.text)
   rw [length_sb] at h1
   rw [txL_one,txL_nil]
   unfold txK wN
   rw [if_neg (by omega),if_pos h,List.length_nil,List.length_cons,List.length_append,List.length_singleton]
   show _≤2*t.text.size+_+_+60
   omega
 | yes t h g=>rw [txL_one,txL_nil];unfold txK wN;rw [if_neg (by omega),if_neg (by omega),if_neg (by omega),if_neg (by omega),g,length_sb];show 4+0+4≤_;omega
 | no t h g=>rw [txL_one,txL_nil];unfold txK wN;rw [if_neg (by omega),if_neg (by omega),if_neg (by omega),if_neg (by omega),g,length_sb];show 5+0+4≤_;omega
 | dead t h=>rw [txL_one,txL_nil];unfold txK wN;rw [if_neg (by omega),if_neg (by omega),if_neg (by omega),if_pos h];show 5+0+4≤_;omega
 | ref t h =>
   have h1:=textL_len (sb t.sh) t.c t.r t.ac t.ar
   rw [length_sb] at h1
   rw [txL_one,txL_nil]
   unfold txK wN
   rw [if_neg (by omega),if_neg (by omega),if_pos h,List.length_nil]
   show _≤_+t.sh.size+_+60
   omega
 | range t c u h hc g hs =>
   have h1:=textL_len (sb t.sh) t.c t.r t.ac t.ar
   have h2:=textL_len (sb u.sh) u.c u.r u.ac u.ar
   rw [length_sb] at h1 h2
   rw [txL_one,txL_one,txL_one,txL_nil,txK_sign hc,length_sb]
   unfold txK wN
   rw [if_neg (by omega),if_neg (by omega),if_pos h,if_neg (by omega),if_neg (by omega),if_pos g,List.length_nil]
   show _+(1+_)+4≤_+t.sh.size+u.sh.size+60
   omega
theorem sh_long {b:Bool} {base:Nat} {ns:List Nd} {ks:List Int} {ts:List Tk} {rq d:Nat} (h:Sh b base ns ks ts rq d):(∀ n∈ns,n.num≤9223372036854775807)→(txL ts).length+(if b=true then 0 else 4)≤sumN ns:=by
 induction h with
 | leaf base ts nd h=>intro hm;rw [sumN_one];exact leaf_len h (hm nd (by simp))
 | neg base ns a ts rk d h m hm d' ts' hw ih =>
   intro hn
   have h1:=ih fun n hn'=>hn n (List.mem_append_left _ hn')
   have h2:=wr_len hw
   rw [if_neg (by decide)] at h1 ⊢
   rw [txL_one,txK_sign hm,sumN_app,sumN_one,length_sb]
   show 1+_+4≤_+wN _
   unfold wN
   omega
 | op base o ho ns ms a b ts us rk1 rk2 d1 d2 h g s hs e1 e2 ts' us' hw gw ih ig =>
   intro hn
   have h1:=ih fun n hn'=>hn n (List.mem_append_left _ hn')
   have h2:=ig fun n hn'=>hn n (List.mem_append_right _ (List.mem_append_left _ hn'))
   have h3:=wr_len hw
   have h4:=wr_len gw
   have h5:(opS.getD o ⟨#[]⟩).size≤2:=by
    have:∀ o:Nat,o<11→(opS.getD o ⟨#[]⟩).size≤2:=by decide
    exact this o ho
   rw [if_neg (by decide)] at h1 h2 ⊢
   rw [txL_app,List.length_append,txL_one,txK_sign hs,sumN_app,sumN_app,sumN_one,length_sb]
   unfold wN
   omega
 | call base ns ks ts d h t x r ht h1 h2 hl hr ih =>
   intro hn
   have g1:=ih fun n hn'=>hn n (List.mem_append_left _ hn')
   rw [if_pos rfl] at g1
   rw [if_neg (by decide),txL_one,txL_one,txL_app,List.length_append,txL_one,txK_sign hl,txK_sign hr,sumN_app,sumN_one,txL_nil,length_sb,length_sb]
   have:txK t=sb t.text:=by unfold txK;rw [ht];rfl
   rw [this,length_sb]
   unfold wN
   show t.text.size+(1+(_+(1+0)))+4≤_+(2*t.text.size+_+_+60)
   omega
 | none base=>intro _;rw [if_pos rfl,txL_nil];exact Nat.zero_le _
 | one base ns a ts rk d h ih =>
   intro hn
   have:=ih hn
   rw [if_neg (by decide)] at this
   rw [if_pos rfl];omega
 | and base ns ms ks b ts us rk d1 d2 h hk c hc g ih ig =>
   intro hn
   have h1:=ih fun n hn'=>hn n (List.mem_append_left _ hn')
   have h2:=ig fun n hn'=>hn n (List.mem_append_right _ hn')
   rw [if_pos rfl] at h1
   rw [if_neg (by decide)] at h2
   rw [if_pos rfl,txL_app,List.length_append,txL_one,txK_sign hc,sumN_app,length_sb]
   show _+(1+_)+0≤_
   omega
theorem print_len {ns:List Nd} (h:treeB ns=true) (hm:∀ n∈ns,n.num≤9223372036854775807):(printL ns).length+4≤sumN ns:=by
 obtain ⟨a,ts,rk,d,h1,h2⟩:=tree_sh h hm
 rw [sh_print h1 h]
 have:=sh_long h1 hm
 rw [if_neg (by decide)] at this
 exact this
theorem Plants.push {l:List Nd} {st ks:List Int} {n:Nd} (h:Plants 0 l (st++ks)) (hn:nodeB n=true) (hk:n.kids=ks):Plants 0 (l++[n]) (st++[(l.length:Int)]):=by
 intro s rest
 subst hk
 rw [List.append_assoc,h]
 show treeF (s++(st++n.kids)) (0+l.length) (n :: rest)=_
 rw [treeF_cons, ← List.append_assoc]
 have e1:((s++st)++n.kids).length - n.kids.length=(s++st).length:=by rw [List.length_append];omega
 rw [hn,e1,List.drop_left,List.take_left,decide_eq_true (show n.kids.length≤((s++st)++n.kids).length by rw [List.length_append];omega),decide_eq_true rfl,Bool.true_and,Bool.true_and,Bool.true_and,List.length_append,Nat.zero_add,Nat.zero_add,List.append_assoc]
 rfl
def sheetM (m:Nat):ByteArray:=if m / 8 % 3=2 then ⟨#[84]⟩ else ⟨#[]⟩
def rfM (m:Nat):Rf:=⟨sheetM m,((m / 16 % 5:Nat):Int),((m / 8 % 7:Nat):Int),decide (128<m),false⟩
def rfA (m:Nat):Rf:=⟨⟨#[]⟩,((m / 16 % 3:Nat):Int),((m / 8 % 4:Nat):Int),false,false⟩
def rfB (m:Nat):Rf:=⟨⟨#[]⟩,((1+m / 16:Nat):Int),((2+m / 8:Nat):Int),false,false⟩
def txM (m:Nat):ByteArray:=strOfNums (97 :: 34 :: digL m)
def takeM (m k:Nat):Nat :=
 if m % 3=0∧2≤k then 2 else if m % 16=1∧1≤k then 1 else if m % 16=2 then min k (m / 16 % 4) else 0
def nodeM (m k:Nat) (ks:List Int):Nd :=
 if m % 3=0∧2≤k then { Nd.zero with kind:=9+((m / 3 % 11:Nat):Int),kids:=ks }
 else if m % 16=1∧1≤k then { Nd.zero with kind:=8,kids:=ks }
 else if m % 16=2 then { Nd.zero with kind:=7,text:=⟨#[83,85,77]⟩,kids:=ks }
 else if m % 8=4 then { Nd.zero with kind:=5,ref:=rfM m }
 else if m % 8=5 then { Nd.zero with kind:=6,ref:=rfA m,to:=rfB m }
 else if m % 32=7 then { Nd.zero with kind:=2,text:=txM m }
 else if m % 32=10 then { Nd.zero with kind:=3,num:=((m / 32 % 2:Nat):Int) }
 else if m % 32=11 then { Nd.zero with kind:=4 }
 else { Nd.zero with kind:=1,num:=(m:Int) }
theorem rfM_all:∀ m<256,mayRf (rfM m)=true:=by decide +kernel
theorem rfR_all:∀ m<256,mayRf (rfA m)=true∧mayRf (rfB m)=true∧spanB (rfA m) (rfB m)=true:=by decide +kernel
theorem sum_call:callB ⟨#[83,85,77]⟩=true:=by decide +kernel
theorem txM_bytes (m:Nat):Bytes (97 :: 34 :: digL m):=by
 intro x hx
 rcases List.mem_cons.1 hx with rfl | hx
 · omega
 · rcases List.mem_cons.1 hx with rfl | hx
   · omega
   · have:=num_bd (isNum_digL m x hx);omega
theorem txM_print (m:Nat):printB (sb (txM m))=true:=by
 unfold txM
 rw [sb_str _ (txM_bytes m)]
 refine decide_eq_true ?_
 intro x hx
 rcases List.mem_cons.1 hx with rfl | hx
 · omega
 · rcases List.mem_cons.1 hx with rfl | hx
   · omega
   · have:=num_bd (isNum_digL m x hx);omega
theorem nodeB_bool (k:Nat):nodeB { Nd.zero with kind:=3,num:=((k % 2:Nat):Int) }=true:=by
 rcases Nat.mod_two_eq_zero_or_one k with h | h <;> rw [h] <;> decide
theorem nodeB_dead:nodeB { Nd.zero with kind:=4 }=true:=by decide
theorem nodeM_ok (m k:Nat) (ks:List Int) (hm:m<256) (hk:ks.length=takeM m k):nodeB (nodeM m k ks)=true∧(nodeM m k ks).kids=ks:=by
 unfold nodeM
 unfold takeM at hk
 by_cases c1:m % 3=0∧2≤k
 · rw [if_pos c1] at hk ⊢
   match ks,hk with
   | [a,b],_=>exact ⟨node_op (by omega),rfl⟩
 rw [if_neg c1] at hk ⊢
 by_cases c2:m % 16=1∧1≤k
 · rw [if_pos c2] at hk ⊢
   match ks,hk with
   | [a],_=>exact ⟨node_neg a,rfl⟩
 rw [if_neg c2] at hk ⊢
 by_cases c3:m % 16=2
 · rw [if_pos c3];exact ⟨node_call sum_call,rfl⟩
 rw [if_neg c3] at hk ⊢
 obtain rfl:=List.eq_nil_of_length_eq_zero hk
 by_cases c4:m % 8=4
 · rw [if_pos c4];exact ⟨node_ref (rfM_all m hm),rfl⟩
 rw [if_neg c4]
 by_cases c5:m % 8=5
 · rw [if_pos c5];obtain ⟨h1,h2,h3⟩:=rfR_all m hm;exact ⟨node_range h1 h2 h3,rfl⟩
 rw [if_neg c5]
 by_cases c6:m % 32=7
 · rw [if_pos c6];exact ⟨node_text (txM_print m),rfl⟩
 rw [if_neg c6]
 by_cases c7:m % 32=10
 · rw [if_pos c7];exact ⟨nodeB_bool _,rfl⟩
 rw [if_neg c7]
 by_cases c8:m % 32=11
 · rw [if_pos c8];exact ⟨nodeB_dead,rfl⟩
 rw [if_neg c8];exact ⟨node_num (by omega),rfl⟩
def ndSpan (m:Nat):Nd:={ Nd.zero with kind:=6,ref:=rfA m,to:=rfB m }
def ndSpn (u v x y:Int):Nd:={ Nd.zero with kind:=6,ref:=⟨⟨#[]⟩,u,v,false,false⟩,to:=⟨⟨#[]⟩,x,y,false,false⟩ }
def leafM (m:Nat):Nd :=
 if m % 8=4 then { Nd.zero with kind:=5,ref:=rfM m }
 else if m % 8=5 then ndSpan m
 else if m % 32=7 then { Nd.zero with kind:=2,text:=txM m }
 else if m % 32=10 then { Nd.zero with kind:=3,num:=((m / 32 % 2:Nat):Int) }
 else if m % 32=11 then { Nd.zero with kind:=4 }
 else { Nd.zero with kind:=1,num:=(m:Int) }
theorem nodeM_leaf {m k:Nat} (h3:¬ (m % 3=0∧2≤k)) (h1:¬ (m % 16=1∧1≤k)) (h2:¬ m % 16=2) (ks:List Int):nodeM m k ks=leafM m:=by
 unfold nodeM leafM ndSpan;rw [if_neg h3,if_neg h1,if_neg h2]
def TinyM (n:Nd):Prop:=n.num≤255∧n.text.size≤300∧n.ref.sh.size≤1∧n.to.sh.size≤1
theorem sheetM_size (m:Nat):(sheetM m).size≤1:=by unfold sheetM;split <;> decide
theorem txM_size (m:Nat) (h:m<256):(txM m).size≤300:=by
 unfold txM
 rw [strOfNums_size,List.length_cons,List.length_cons]
 have:=length_digL m
 omega
theorem nodeM_tiny (m k:Nat) (ks:List Int) (hm:m<256):TinyM (nodeM m k ks):=by
 have e0:(⟨#[]⟩:ByteArray).size=0:=rfl
 have e3:(⟨#[83,85,77]⟩:ByteArray).size=3:=rfl
 have h1:=sheetM_size m
 have h2:=txM_size m hm
 unfold nodeM
 repeat' split
 all_goals (refine ⟨?_, ?_, ?_, ?_⟩ <;> (first | (show (0:Int)≤255;decide) | (show ((m / 32 % 2:Nat):Int)≤255;omega) | (show (m:Int)≤255;omega) | exact h2 | exact h1 | (show (⟨#[]⟩:ByteArray).size≤_;rw [e0];omega) | (show (⟨#[83,85,77]⟩:ByteArray).size≤_;rw [e3];omega)))
def FreeT (n:Nd):Prop:=∀ x∈sb n.text,x≠40∧x≠41
theorem free_nil:FreeT Nd.zero:=by
 intro x hx
 rw [show sb Nd.zero.text=[] from by decide] at hx;cases hx
theorem nodeM_free (m k:Nat) (ks:List Int):FreeT (nodeM m k ks):=by
 have h0:∀ x∈sb (⟨#[]⟩:ByteArray),x≠40∧x≠41:=free_nil
 have h1:∀ x∈sb (⟨#[83,85,77]⟩:ByteArray),x≠40∧x≠41:=by decide
 have h2:∀ x∈sb (txM m),x≠40∧x≠41:=by
  unfold txM
  rw [sb_str _ (txM_bytes m)]
  intro x hx
  rcases List.mem_cons.1 hx with rfl | hx
  · omega
  · rcases List.mem_cons.1 hx with rfl | hx
    · omega
    · have:=num_bd (isNum_digL m x hx);omega
 unfold nodeM
 repeat' split
 all_goals (first | exact h0 | exact h1 | exact h2)
structure MadeI (l:List Nd) (st:List Int):Prop where
 plants:Plants 0 l st
 tiny:∀ n∈l,TinyM n
 few:st.length≤l.length
 some:l≠[]→st≠[]
 free:∀ n∈l,FreeT n
theorem MadeI.nil:MadeI [] []:=⟨Plants.nil 0,by simp,Nat.le_refl _,by simp,by simp⟩
theorem MadeI.push {l:List Nd} {st ks:List Int} {n:Nd} (h:MadeI l (st++ks)) (hn:nodeB n=true) (hk:n.kids=ks) (ht:TinyM n) (hf:FreeT n):MadeI (l++[n]) (st++[(l.length:Int)]):=by
 refine ⟨h.plants.push hn hk, ?_, ?_,by simp, ?_⟩
 · intro x hx
   rcases List.mem_append.1 hx with hx | hx
   · exact h.tiny x hx
   · rw [List.mem_singleton.1 hx];exact ht
 · have:=h.few
   rw [List.length_append] at this
   rw [List.length_append,List.length_append,List.length_singleton,List.length_singleton];omega
 · intro x hx
   rcases List.mem_append.1 hx with hx | hx
   · exact h.free x hx
   · rw [List.mem_singleton.1 hx];exact hf
theorem takeM_le (m k:Nat):takeM m k≤k:=by
 unfold takeM
 split
 · omega
 split
 · omega
 split
 · exact Nat.min_le_left _ _
 · omega
theorem MadeI.round {l:List Nd} {st:List Int} (m:Nat) (hm:m<256) (h:MadeI l st) :
 MadeI (l++[nodeM m st.length (st.drop (st.length - takeM m st.length))]) (st.take (st.length - takeM m st.length)++[(l.length:Int)]):=by
 have ht:=takeM_le m st.length
 have hl:(st.drop (st.length - takeM m st.length)).length=takeM m st.length:=by rw [List.length_drop];omega
 obtain ⟨h1,h2⟩:=nodeM_ok m st.length _ hm hl
 have h0:MadeI l (st.take (st.length - takeM m st.length)++st.drop (st.length - takeM m st.length)):=by rw [List.take_append_drop];exact h
 exact h0.push h1 h2 (nodeM_tiny m _ _ hm) (nodeM_free m _ _)
def catM (a b:Int):Nd:={ Nd.zero with kind:=15,kids:=[a,b] }
theorem MadeI.cat {l:List Nd} {st:List Int} {a b:Int} (h:MadeI l (st++[a,b])):MadeI (l++[catM a b]) (st++[(l.length:Int)]) :=
 h.push (node_op (by omega)) rfl ⟨show (0:Int)≤255 by decide,show (⟨#[]⟩:ByteArray).size≤300 by decide,show (⟨#[]⟩:ByteArray).size≤1 by decide,show (⟨#[]⟩:ByteArray).size≤1 by decide⟩ free_nil
theorem MadeI.tree {l:List Nd} {a:Int} (h:MadeI l [a]):treeB l=true:=by
 have:=h.plants [] []
 rw [List.append_nil] at this
 unfold treeB
 rw [this];rfl
theorem tail_len {s:ByteArray} {ts:List Tk} (h:signIs s ts=true):ts.tail.length+1=ts.length:=by
 cases ts with
 | nil=>unfold signIs at h;cases h
 | cons t l=>rfl
theorem opK_tail {n:Nat} {ts:List Tk} (h:opK n ts≠0):ts.tail.length+1=ts.length:=by
 obtain ⟨p,_,h1,_⟩:=opK_pos h;exact tail_len h1
theorem count_all : ∀ f:Nat,(∀ n deep base ts ns a r,exprP f n deep base ts=some (.ok (ns,a,r))→ns.length+r.length≤ts.length) ∧
 (∀ n deep base ns a ts ns' a' r,rowP f n deep base ns a ts=some (.ok (ns',a',r))→ns'.length+r.length≤ns.length+ts.length) ∧
 (∀ deep base ts ns a r,primP f deep base ts=some (.ok (ns,a,r))→ns.length+r.length≤ts.length) ∧
 (∀ deep base ns ks ts ns' ks' r,argsP f deep base ns ks ts=some (.ok (ns',ks',r))→ns'.length+r.length≤ns.length+ts.length)
 | 0=>by
   refine ⟨?_, ?_, ?_, ?_⟩
   · intro n deep base ts ns a r h;unfold exprP at h;cases h
   · intro n deep base ns a ts ns' a' r h;unfold rowP at h;cases h
   · intro deep base ts ns a r h;unfold primP at h;cases h
   · intro deep base ns ks ts ns' ks' r h;unfold argsP at h;cases h
 | f + 1 => by
   obtain ⟨i1,i2,i3,i4⟩:=count_all f
   refine ⟨?_, ?_, ?_, ?_⟩
   · intro n deep base ts ns a r h
     rw [exprP_succ] at h
     by_cases hn:n≤3
     · rw [if_pos hn] at h
       rcases bindR_some h with ⟨e,_,h2⟩ | ⟨ms,b,s,h1,h2⟩
       · cases h2
       · have:=i1 _ _ _ _ _ _ _ h1
         have:=i2 _ _ _ _ _ _ _ _ _ h2
         omega
     · rw [if_neg hn] at h
       by_cases c:signIs ⟨#[45]⟩ ts=true
       · rw [if_pos c] at h
         have htl:=tail_len c
         by_cases d:12≤deep
         · rw [if_pos d] at h;injection h with h;cases h
         · rw [if_neg d] at h
           rcases bindR_some h with ⟨e,_,h2⟩ | ⟨ms,b,s,h1,h2⟩
           · cases h2
           · have:=i1 _ _ _ _ _ _ _ h1
             injection h2 with h2;injection h2 with h2;injection h2 with h3 h4;injection h4 with h4 h5
             subst h3;subst h5
             rw [List.length_append,List.length_singleton];omega
       · rw [if_neg c] at h;exact i3 _ _ _ _ _ _ h
   · intro n deep base ns a ts ns' a' r h
     rw [rowP_succ] at h
     by_cases c:opK n ts=0
     · rw [if_pos c] at h
       injection h with h;injection h with h;injection h with h3 h4;injection h4 with h4 h5
       subst h3;subst h5;exact Nat.le_refl _
     · rw [if_neg c] at h
       have htl:=opK_tail c
       rcases bindR_some h with ⟨e,_,h2⟩ | ⟨ms,b,s,h1,h2⟩
       · cases h2
       · have:=i1 _ _ _ _ _ _ _ h1
         have:=i2 _ _ _ _ _ _ _ _ _ h2
         rw [List.length_append,List.length_append,List.length_singleton] at this
         omega
   · intro deep base ts ns a r h
     cases ts with
     | nil=>rw [primP_nil] at h;injection h with h;cases h
     | cons t ts =>
       rw [primP_cons] at h
       by_cases c:signIs ⟨#[40]⟩ (t :: ts)=true
       · rw [if_pos c] at h
         by_cases d:12≤deep
         · rw [if_pos d] at h;injection h with h;cases h
         · rw [if_neg d] at h
           rcases bindR_some h with ⟨e,_,h2⟩ | ⟨ms,b,s,h1,h2⟩
           · cases h2
           · have:=i1 _ _ _ _ _ _ _ h1
             by_cases g:signIs ⟨#[41]⟩ s=true
             · rw [if_pos g] at h2
               injection h2 with h2;injection h2 with h2;injection h2 with h3 h4;injection h4 with h4 h5
               subst h3;subst h5
               have:=tail_len g
               rw [List.length_cons];omega
             · rw [if_neg g] at h2;injection h2 with h2;cases h2
       · rw [if_neg c] at h
         by_cases k1:t.kind=1
         · rw [if_pos k1] at h;injection h with h;injection h with h;injection h with h3 h4;injection h4 with h4 h5;subst h3;subst h5;simp only [List.length_cons,List.length_nil];omega
         rw [if_neg k1] at h
         by_cases k2:t.kind=2
         · rw [if_pos k2] at h;injection h with h;injection h with h;injection h with h3 h4;injection h4 with h4 h5;subst h3;subst h5;simp only [List.length_cons,List.length_nil];omega
         rw [if_neg k2] at h
         by_cases k6:t.kind=6
         · rw [if_pos k6] at h;injection h with h;injection h with h;injection h with h3 h4;injection h4 with h4 h5;subst h3;subst h5;simp only [List.length_cons,List.length_nil];omega
         rw [if_neg k6] at h
         by_cases k4:t.kind=4
         · rw [if_pos k4] at h;injection h with h
           obtain ⟨s1,s2,_⟩:=refP_ok h
           have:=s1.len
           rw [List.length_cons,s2];omega
         rw [if_neg k4] at h
         by_cases k3:t.kind=3
         · rw [if_pos k3] at h
           by_cases w1:t.text=⟨#[84,82,85,69]⟩
           · rw [if_pos w1] at h;injection h with h;injection h with h;injection h with h3 h4;injection h4 with h4 h5;subst h3;subst h5;simp only [List.length_cons,List.length_nil];omega
           rw [if_neg w1] at h
           by_cases w2:t.text=⟨#[70,65,76,83,69]⟩
           · rw [if_pos w2] at h;injection h with h;injection h with h;injection h with h3 h4;injection h4 with h4 h5;subst h3;subst h5;simp only [List.length_cons,List.length_nil];omega
           rw [if_neg w2] at h
           by_cases w3:signIs ⟨#[40]⟩ ts=true
           · rw [if_pos w3] at h
             have htl:=tail_len w3
             by_cases d:12≤deep
             · rw [if_pos d] at h;injection h with h;cases h
             rw [if_neg d] at h
             rcases bindR_some h with ⟨e,_,h2⟩ | ⟨ms,ks,s,h1,h2⟩
             · cases h2
             · have hms:ms.length+s.length≤ts.tail.length:=by
                by_cases g:signIs ⟨#[41]⟩ ts.tail=true
                · rw [if_pos g] at h1
                  injection h1 with h1;injection h1 with h1;injection h1 with h3 h4;injection h4 with h4 h5
                  subst h3;subst h5;simp
                · rw [if_neg g] at h1
                  have:=i4 _ _ _ _ _ _ _ _ h1
                  simpa using this
               by_cases g:signIs ⟨#[41]⟩ s=true
               · rw [if_pos g] at h2
                 injection h2 with h2;injection h2 with h2;injection h2 with h3 h4;injection h4 with h4 h5
                 subst h3;subst h5
                 have:=tail_len g
                 rw [List.length_append,List.length_singleton,List.length_cons];omega
               · rw [if_neg g] at h2;injection h2 with h2;cases h2
           · rw [if_neg w3] at h;injection h with h;cases h
         · rw [if_neg k3] at h;injection h with h;cases h
   · intro deep base ns ks ts ns' ks' r h
     rw [argsP_succ] at h
     rcases bindR_some h with ⟨e,_,h2⟩ | ⟨ms,b,s,h1,h2⟩
     · cases h2
     · have h3:=i1 _ _ _ _ _ _ _ h1
       by_cases d:signIs ⟨#[44]⟩ s=true
       · rw [if_pos d] at h2
         have:=tail_len d
         have:=i4 _ _ _ _ _ _ _ _ h2
         rw [List.length_append] at this;omega
       · rw [if_neg d] at h2
         injection h2 with h2;injection h2 with h2;injection h2 with h3 h4;injection h4 with h4 h5
         subst h3;subst h5;rw [List.length_append];omega
set_option maxHeartbeats 400000 in
theorem isCapital_any (c:Int) (_h0:0≤c) (_h1:c≤255) (w:World) :
 Calls Tryz.prog 172 #[.int .u8 c] w fun e w'=>e = .returned (.bool (isCap c))∧w=w':=by
 go_enter Tryz.func172,Tryz.ntmps172
 go_wp2
 all_goals go_ret
 all_goals exact ⟨ret_bool (by unfold isCap;first | rfl | (symm;rw [decide_eq_true_iff];omega) | (symm;rw [decide_eq_false_iff_not];omega) | (rw [decide_eq_decide];omega)),rfl⟩
set_option maxHeartbeats 400000 in
theorem isDigit_any (c:Int) (_h0:0≤c) (_h1:c≤255) (w:World) :
 Calls Tryz.prog 139 #[.int .u8 c] w fun e w'=>e = .returned (.bool (isNum c))∧w=w':=by
 go_enter Tryz.func139,Tryz.ntmps139
 go_wp2
 all_goals go_ret
 all_goals exact ⟨ret_bool (by unfold isNum;first | rfl | (symm;rw [decide_eq_true_iff];omega) | (symm;rw [decide_eq_false_iff_not];omega) | (rw [decide_eq_decide];omega)),rfl⟩
theorem isLet_cap {c:Int} (h:isCap c=true):isLet c=true:=by unfold isCap at h;unfold isLet;rw [decide_eq_true_iff] at h ⊢;omega
theorem isLet_nocap {c:Int} (h:isCap c=false):isLet c=decide (97≤c∧c≤122):=by unfold isCap at h;unfold isLet;rw [decide_eq_false_iff_not] at h;rw [decide_eq_decide];omega
set_option maxHeartbeats 400000 in
theorem isLetter_any (c:Int) (_h0:0≤c) (_h1:c≤255) (w:World) :
 Calls Tryz.prog 138 #[.int .u8 c] w fun e w'=>e = .returned (.bool (isLet c))∧w=w':=by
 by_cases hc:isCap c=true
 · have hl:=isLet_cap hc
   have HL:=Lib.hid hl;clear hl
   go_enter Tryz.func138,Tryz.ntmps138
   go_wp2_with (go_at_call 172;((with_reducible refine (isCapital_any _ ?_ ?_ _).mono ?_);(first | omega | skip);(first | omega | skip);rintro e w' ⟨rfl,rfl⟩))
   all_goals go_ret
   all_goals exact ⟨ret_bool (by rw [HL.out]),rfl⟩
 · have hc':isCap c=false:=by simpa using hc
   have hl:=isLet_nocap hc'
   have HL:=Lib.hid hl;clear hl hc
   go_enter Tryz.func138,Tryz.ntmps138
   go_wp2_with (go_at_call 172;((with_reducible refine (isCapital_any _ ?_ ?_ _).mono ?_);(first | omega | skip);(first | omega | skip);rintro e w' ⟨rfl,rfl⟩))
   all_goals go_ret
   all_goals exact ⟨ret_bool (by rw [HL.out];first | rfl | (symm;rw [decide_eq_true_iff];omega) | (symm;rw [decide_eq_false_iff_not];omega) | (rw [decide_eq_decide];omega)),rfl⟩
theorem nameL_nil (s:ByteArray) (h:s.size=0):nameL (sb s)=false:=by
 unfold nameL;rw [length_sb,h,Bool.and_eq_false_iff];right;rfl
theorem nameL_long (s:ByteArray) (h:12<s.size):nameL (sb s)=false:=by
 unfold nameL;rw [length_sb,Bool.and_eq_false_iff];right;rw [decide_eq_false_iff_not];omega
set_option maxRecDepth 100000 in
set_option maxHeartbeats 400000 in
theorem name_any (s:ByteArray) (w:World) (_hs:s.size≤1000000) :
 Calls Tryz.prog 88 #[.string s] w fun e w'=>e = .returned (.bool (nameL (sb s)))∧w=w':=by
 by_cases h0:s.size=0
 · have hz:=sb_nil s h0
   have hno:=nameL_nil s h0
   have HNO:=Lib.hid hno;clear hno
   subst hz
   clear h0 _hs
   go_enter Tryz.func88,Tryz.ntmps88
   go_wp2_with fail
   all_goals go_ret
   all_goals exact ⟨ret_bool HNO.out.symm,rfl⟩
 · have hne := text_ne0 s h0
   have hne2:s.toList.isEmpty=false:=by cases hq:s.toList with | nil=>exact absurd hq hne | cons a l=>rfl
   by_cases h12:12<s.size
   · have hno:=nameL_long s h12
     have HNO:=Lib.hid hno;clear hno
     have hi12:(12:Int)<(s.size:Int):=by omega
     clear h0
     go_enter Tryz.func88,Tryz.ntmps88
     go_wp2_with fail
     all_goals go_ret
     all_goals exact ⟨ret_bool HNO.out.symm,rfl⟩
   · have hi12 : ¬ (12:Int)<(s.size:Int):=by omega
     have hp0:0<s.size:=by omega
     obtain ⟨a,ha⟩:∃ a:Int,(s[0].toNat:Int)=a:=⟨_,rfl⟩
     have ha1:0≤a∧a≤255:=by have:=s[0].toNat_lt;omega
     have hga:(sb s).getD 0 0=a:=by rw [sb_getD s 0 hp0,ha]
     have HGA:=Lib.hid hga;clear hga
     by_cases hl:isLet a=true
     · have hin : ∀ j,j<1→inName j ((sb s).getD j 0)=true:=by
        intro j hj;have:j=0:=by omega
        subst this;rw [HGA.out];unfold inName;rw [hl];rfl
       have HIN:=Lib.hid hin;clear hin
       clear h0
       go_enter Tryz.func88,Tryz.ntmps88
       go_wp2_with (go_at_call 138;((with_reducible refine (isLetter_any _ ?_ ?_ _).mono ?_);(first | omega | skip);(first | omega | skip);rintro e w' ⟨rfl,rfl⟩))
       clear hl
       go_loopw [3] (fun i wr=>∃ k:Nat,1≤k∧k≤s.size∧i = .int .i64 k∧Hid (∀ j,j<k→inName j ((sb s).getD j 0)=true)∧w=wr)
        (fun i _=>s.size - (intOf i).toNat)
       case atStart=>exact ⟨1,by omega,by omega,rfl,HIN,rfl⟩
       case round =>
        obtain ⟨k,hk1,hk,rfl,HG,rfl⟩:=hrel
        by_cases hlt:k<s.size
        · have hki:(k:Int)<(s.size:Int):=by omega
          obtain ⟨b,hb⟩:∃ b:Int,(s[k].toNat:Int)=b:=⟨_,rfl⟩
          have hb1:0≤b∧b≤255:=by have:=s[k].toNat_lt;omega
          have hgb:(sb s).getD k 0=b:=by rw [sb_getD s k hlt,hb]
          have HGB:=Lib.hid hgb;clear hgb
          by_cases hl:isLet b=true
          · go_wp2_with (first
             | (go_at_call 138;((with_reducible refine (isLetter_any _ ?_ ?_ _).mono ?_);(first | omega | skip);(first | omega | skip);rintro e w' ⟨rfl,rfl⟩)))
            go_roundw
            case rel =>
             refine ⟨k+1,by omega,by omega,by go_num,Lib.hid ?_,by trivial⟩
             intro j hj
             by_cases h1:j<k
             · exact HG.out j h1
             · rw [show j=k from by omega,HGB.out];unfold inName;rw [hl,Bool.true_or]
            case measure=>simp [intOf];omega
          · have hl':isLet b=false:=by simpa using hl
            clear hl
            by_cases hn:isNum b=true
            · go_wp2_with (first
               | (go_at_call 138;((with_reducible refine (isLetter_any _ ?_ ?_ _).mono ?_);(first | omega | skip);(first | omega | skip);rintro e w' ⟨rfl,rfl⟩))
               | (go_at_call 139;((with_reducible refine (isDigit_any _ ?_ ?_ _).mono ?_);(first | omega | skip);(first | omega | skip);rintro e w' ⟨rfl,rfl⟩)))
              go_roundw
              case rel =>
               refine ⟨k+1,by omega,by omega,by go_num,Lib.hid ?_,by trivial⟩
               intro j hj
               by_cases h1:j<k
               · exact HG.out j h1
               · rw [show j=k from by omega,HGB.out];unfold inName;rw [hl',hn,decide_eq_true (by omega:0<k)];rfl
              case measure=>simp [intOf];omega
            · have hn':isNum b=false:=by simpa using hn
              clear hn
              have hno:=nameL_bad s k hlt (by rw [HGB.out];unfold inName;rw [hl',hn',Bool.and_false];rfl)
              have HNO:=Lib.hid hno;clear hno
              go_wp2_with (first
               | (go_at_call 138;((with_reducible refine (isLetter_any _ ?_ ?_ _).mono ?_);(first | omega | skip);(first | omega | skip);rintro e w' ⟨rfl,rfl⟩))
               | (go_at_call 139;((with_reducible refine (isDigit_any _ ?_ ?_ _).mono ?_);(first | omega | skip);(first | omega | skip);rintro e w' ⟨rfl,rfl⟩)))
              all_goals go_ret
              all_goals exact ⟨ret_bool HNO.out.symm,rfl⟩
        · have hki:¬ (k:Int)<(s.size:Int):=by omega
          have hno:=nameL_all s (fun j hj=>HG.out j (by omega))
          rw [decide_eq_true (by omega)] at hno
          have HNO:=Lib.hid hno;clear hno
          go_wp2_with fail
          all_goals go_ret
          all_goals exact ⟨ret_bool HNO.out.symm,rfl⟩
     · have hl':isLet a=false:=by simpa using hl
       have hno:=nameL_bad s 0 hp0 (by rw [HGA.out];unfold inName;rw [hl'];rfl)
       have HNO:=Lib.hid hno;clear hno hl h0
       go_enter Tryz.func88,Tryz.ntmps88
       go_wp2_with (go_at_call 138;((with_reducible refine (isLetter_any _ ?_ ?_ _).mono ?_);(first | omega | skip);(first | omega | skip);rintro e w' ⟨rfl,rfl⟩))
       all_goals go_ret
       all_goals exact ⟨ret_bool HNO.out.symm,rfl⟩
theorem enc_one:∀ m:Nat,m<26→Utf8.encode (65+(m:Int))=strOfNums [65+(m:Int)]:=by decide +kernel
theorem enc_cap (x:Int) (h0:65≤x) (h1:x≤90):Utf8.encode x=strOfNums [x]:=by
 have:=enc_one (x - 65).toNat (by omega)
 rw [show (65:Int)+((x - 65).toNat:Int)=x from by omega] at this;exact this
theorem str_app (a b:List Int) (A B:ByteArray) (h:A=strOfNums a) (k:B=strOfNums b):A++B=strOfNums (a++b):=by rw [h,k,str_append]
def RdAt (w:World) (b:Nat) (d:Rd):Prop:=w.heap[b]? = some (.cells d.cells 201)
theorem RdAt.lt {w:World} {b:Nat} {d:Rd} (h:RdAt w b d):b<w.heap.size:=(Array.getElem?_eq_some_iff.1 h).1
theorem RdAt.drewN {w:World} {b:Nat} {d:Rd} (h:RdAt w b d) (n:Nat):RdAt (w.drewN n) b d:=h
theorem RdAt.below {w w':World} {B b:Nat} {d:Rd} (h:RdAt w b d) (hb:Below B w w') (hB:b<B):RdAt w' b d:=by unfold RdAt;rw [hb.block b hB];exact h
theorem RdAt.facts {w:World} {b:Nat} {d:Rd} (h:RdAt w b d) :
 w.cell? ⟨b,0,none⟩=some (.string d.s)∧w.cell? ⟨b,1,none⟩=some (.int .i64 d.k)∧w.cell? ⟨b,2,none⟩=some (.string d.sh)∧w.cell? ⟨b,3,none⟩=some (.int .i64 d.c)∧w.cell? ⟨b,4,none⟩=some (.int .i64 d.r)∧w.cell? ⟨b,5,none⟩=some (.bool d.ac)∧w.cell? ⟨b,6,none⟩=some (.bool d.ar) :=
 ⟨by rw [cell_of_row w b 0 _ _ _ h];rfl,by rw [cell_of_row w b 1 _ _ _ h];rfl,by rw [cell_of_row w b 2 _ _ _ h];rfl,by rw [cell_of_row w b 3 _ _ _ h];rfl,by rw [cell_of_row w b 4 _ _ _ h];rfl,by rw [cell_of_row w b 5 _ _ _ h];rfl,by rw [cell_of_row w b 6 _ _ _ h];rfl⟩
theorem RdAt.frozen {w:World} {b:Nat} {d:Rd} (h:RdAt w b d) (j:Nat):w.frozen? ⟨b,j,none⟩=false:=frozen_of_row w b j _ _ h
theorem RdAt.setK {w:World} {b:Nat} {d:Rd} (h:RdAt w b d) (k:Nat):RdAt (w.setCell ⟨b,1,none⟩ (.int .i64 (k:Int))) b { d with k:=k }:=by unfold RdAt;rw [heap_setCell_same w b 1 _ _ _ h];rfl
theorem RdAt.setSh {w:World} {b:Nat} {d:Rd} (h:RdAt w b d) (s:ByteArray):RdAt (w.setCell ⟨b,2,none⟩ (.string s)) b { d with sh:=s }:=by unfold RdAt;rw [heap_setCell_same w b 2 _ _ _ h];rfl
theorem RdAt.setC {w:World} {b:Nat} {d:Rd} (h:RdAt w b d) (c:Int):RdAt (w.setCell ⟨b,3,none⟩ (.int .i64 c)) b { d with c:=c }:=by unfold RdAt;rw [heap_setCell_same w b 3 _ _ _ h];rfl
theorem RdAt.setR {w:World} {b:Nat} {d:Rd} (h:RdAt w b d) (c:Int):RdAt (w.setCell ⟨b,4,none⟩ (.int .i64 c)) b { d with r:=c }:=by unfold RdAt;rw [heap_setCell_same w b 4 _ _ _ h];rfl
theorem RdAt.setAc {w:World} {b:Nat} {d:Rd} (h:RdAt w b d) (x:Bool):RdAt (w.setCell ⟨b,5,none⟩ (.bool x)) b { d with ac:=x }:=by unfold RdAt;rw [heap_setCell_same w b 5 _ _ _ h];rfl
theorem RdAt.setAr {w:World} {b:Nat} {d:Rd} (h:RdAt w b d) (x:Bool):RdAt (w.setCell ⟨b,6,none⟩ (.bool x)) b { d with ar:=x }:=by unfold RdAt;rw [heap_setCell_same w b 6 _ _ _ h];rfl
def Part (o:Option Rd) (b:Nat) (w:World) (e:Ending) (w':World):Prop :=
 w.grownBy w' (some b)∧((∃ d',o=some d'∧e = .returned (.bool true)∧RdAt w' b d')∨(o=none∧e = .returned (.bool false)))
set_option maxHeartbeats 400000 in
theorem fin_any (b:Nat) (d:Rd) (w:World) (h:RdAt w b d) (_hs:d.s.size≤1000000) (_hk:d.k≤d.s.size) :
 Calls Tryz.prog 201 #[.pointer (some ⟨b,0,none⟩)] w (Part d.fin b w):=by
 obtain ⟨c0,c1,c2,c3,c4,c5,c6⟩:=h.facts
 clear c2 c3 c4 c5 c6
 have HR:=Lib.hid h;clear h
 by_cases hk:d.k=d.s.size
 · have hf:d.fin=some d:=by unfold Rd.fin;rw [if_pos hk]
   have HF:=Lib.hid hf;clear hf
   have hi:((d.k:Int) == (d.s.size:Int))=true:=beq_iff_eq.2 (by omega)
   go_enter Tryz.func201,Tryz.ntmps201
   go_wp2_with fail
   go_quiet (fail)
   go_wp2_with fail
   go_ret
   exact ⟨grownBy.drewN' (grownBy.refl' _ _) _,.inl ⟨d,HF.out,by simp,HR.out.drewN _⟩⟩
 · have hf:d.fin=none:=by unfold Rd.fin;rw [if_neg hk]
   have HF:=Lib.hid hf;clear hf
   have hi:((d.k:Int) == (d.s.size:Int))=false:=beq_eq_false_iff_ne.2 (by omega)
   go_enter Tryz.func201,Tryz.ntmps201
   go_wp2_with fail
   go_quiet (fail)
   go_wp2_with fail
   go_ret
   exact ⟨grownBy.drewN' (grownBy.refl' _ _) _,.inr ⟨HF.out,by simp⟩⟩
theorem rest_get (d:Rd) (h:d.k<d.s.size):d.rest.head? = some ((d.s[d.k].toNat:Nat):Int):=by
 unfold Rd.rest;rw [List.head?_drop,sb_at d.s d.k h]
theorem rest_end (d:Rd) (h:d.s.size≤d.k):d.rest=[]:=by
 unfold Rd.rest;rw [List.drop_eq_nil_iff,length_sb];exact h
set_option maxRecDepth 100000 in
set_option maxHeartbeats 400000 in
theorem mark_any (b:Nat) (d:Rd) (w:World) (h:RdAt w b d) (_hs:d.s.size≤1000000) (_hk:d.k≤d.s.size) :
 Calls Tryz.prog 221 #[.pointer (some ⟨b,0,none⟩)] w fun e w'=>e = .returned (.bool d.mark)∧RdAt w' b { d with k:=d.k+(dol d.mark).length }∧w.grownBy w' (some b):=by
 obtain ⟨c0,c1,c2,c3,c4,c5,c6⟩:=h.facts
 clear c2 c3 c4 c5 c6
 have f1:=h.frozen 1
 have HR:=Lib.hid h;clear h
 by_cases hk:d.k=d.s.size
 · have hf:d.mark=false:=by unfold Rd.mark;rw [rest_end d (by omega)];rfl
   have HF:=Lib.hid hf;clear hf
   have hi:((d.k:Int) == (d.s.size:Int))=true:=beq_iff_eq.2 (by omega)
   go_enter Tryz.func221,Tryz.ntmps221
   go_wp2_with fail
   go_quiet (fail)
   go_wp2_with fail
   go_ret
   rw [HF.out]
   exact ⟨rfl,HR.out.drewN _,grownBy.drewN' (grownBy.refl' _ _) _⟩
 · have hi:((d.k:Int) == (d.s.size:Int))=false:=beq_eq_false_iff_ne.2 (by omega)
   have hlt:d.k<d.s.size:=by omega
   have hki:(d.k:Int)<(d.s.size:Int):=by omega
   obtain ⟨a,ha⟩:∃ a:Int,(d.s[d.k].toNat:Int)=a:=⟨_,rfl⟩
   have ha1:0≤a∧a≤255:=by have:=d.s[d.k].toNat_lt;omega
   have hh:=rest_get d hlt
   rw [ha] at hh
   by_cases h36:a=36
   · have hf:d.mark=true:=by unfold Rd.mark;rw [hh,h36];rfl
     have HF:=Lib.hid hf;clear hf hh
     have hj:(a == 36)=true:=beq_iff_eq.2 h36
     have hj2:(a != 36)=false:=by rw [bne,hj];rfl
     clear h36
     go_enter Tryz.func221,Tryz.ntmps221
     go_wp2_with fail
     go_quiet (fail)
     go_wp2_with fail
     go_ret
     rw [HF.out]
     exact ⟨rfl,(HR.out.drewN _).setK (d.k+1),grownBy.setCell' (grownBy.drewN' (grownBy.refl' _ _) _) _ _⟩
   · have hf:d.mark=false:=by unfold Rd.mark;rw [hh,decide_eq_false_iff_not];intro h;injection h with h;exact h36 h
     have HF:=Lib.hid hf;clear hf hh
     have hj:(a == 36)=false:=beq_eq_false_iff_ne.2 h36
     have hj2:(a != 36)=true:=by rw [bne,hj];rfl
     clear h36
     go_enter Tryz.func221,Tryz.ntmps221
     go_wp2_with fail
     go_quiet (fail)
     go_wp2_with fail
     go_ret
     rw [HF.out]
     exact ⟨rfl,HR.out.drewN _,grownBy.drewN' (grownBy.refl' _ _) _⟩
set_option maxHeartbeats 400000 in
theorem absCol_any (b:Nat) (d:Rd) (w:World) (h:RdAt w b d) (_hs:d.s.size≤1000000) (_hk:d.k≤d.s.size) :
 Calls Tryz.prog 197 #[.pointer (some ⟨b,0,none⟩)] w (Part d.absCol b w):=by
 have HR:=Lib.hid h;clear h
 go_enter Tryz.func197,Tryz.ntmps197
 go_wp2_with (go_at_call 221;((with_reducible refine (mark_any b d _ HR.out ?_ ?_).mono ?_);(first | omega | skip);(first | omega | skip);rintro e w1 ⟨rfl,h1,h2⟩;obtain ⟨c0,c1,c2,c3,c4,c5,c6⟩:=h1.facts;have f5:=h1.frozen 5;have H1:=Lib.hid h1;clear h1;have H2:=Lib.hid h2;clear h2))
 go_ret
 exact ⟨grownBy.setCell' H2.out _ _,.inl ⟨_,rfl,rfl,H1.out.setAc _⟩⟩
set_option maxHeartbeats 400000 in
theorem absRow_any (b:Nat) (d:Rd) (w:World) (h:RdAt w b d) (_hs:d.s.size≤1000000) (_hk:d.k≤d.s.size) :
 Calls Tryz.prog 199 #[.pointer (some ⟨b,0,none⟩)] w (Part d.absRow b w):=by
 have HR:=Lib.hid h;clear h
 go_enter Tryz.func199,Tryz.ntmps199
 go_wp2_with (go_at_call 221;((with_reducible refine (mark_any b d _ HR.out ?_ ?_).mono ?_);(first | omega | skip);(first | omega | skip);rintro e w1 ⟨rfl,h1,h2⟩;obtain ⟨c0,c1,c2,c3,c4,c5,c6⟩:=h1.facts;have f6:=h1.frozen 6;have H1:=Lib.hid h1;clear h1;have H2:=Lib.hid h2;clear h2))
 go_ret
 exact ⟨grownBy.setCell' H2.out _ _,.inl ⟨_,rfl,rfl,H1.out.setAr _⟩⟩
theorem quiet_call {f:FuncId} {args:Array Value} {w:World} {n:Nat} {v:Value} (h:Calls Tryz.prog f args (w.drewN n) fun e w'=>e = .returned v∧w.drewN n=w'):Calls Tryz.prog f args (w.drewN n) fun e w''=>e = .returned v∧∃ m,w''=w.drewN m :=
 Calls.quiet_of_same (h.mono fun _ _ ⟨a,b⟩=>⟨a,b.symm⟩)
theorem RdAt.setNext {w:World} {b m p:Nat} {d:Rd} (h:RdAt w b { d with k:=d.k+m }) (hp:d.k+m=p) (n:Nat):RdAt ((w.drewN n).setCell ⟨b,1,none⟩ (.int .i64 ((p:Int)+1))) b { d with k:=d.k+(m+1) }:=by
 subst hp;exact (h.drewN n).setK (d.k+m+1)
theorem take_next (d:Rd) (m:Nat) (h:d.k+m<d.s.size):d.rest.take (m+1)=d.rest.take m++[((d.s[d.k+m].toNat:Nat):Int)]:=by
 unfold Rd.rest;rw [List.take_add_one,List.getElem?_drop,sb_at d.s _ h];rfl
theorem length_rest (d:Rd):d.rest.length=d.s.size - d.k:=by unfold Rd.rest;rw [List.length_drop,length_sb]
theorem span_stop (p:Int→Bool) (l:List Int) (m:Nat) (h:∀ x∈l.take m,p x=true) (h2:∀ x,l[m]? = some x→p x=false):l.takeWhile p=l.take m:=by
 have e:=take_part p (l.take m) (l.drop m) h (fun x hx=>h2 x (by rw [List.head?_drop] at hx;exact hx))
 rw [List.take_append_drop] at e;exact e
theorem span_over (p:Int→Bool) (l:List Int) (m:Nat) (h:∀ x∈l.take m,p x=true):l.takeWhile p=l.take m++(l.drop m).takeWhile p:=by
 have e:=take_more p (l.take m) (l.drop m) h
 rw [List.take_append_drop] at e;exact e
theorem all_snoc {p:Int→Bool} {l:List Int} {x:Int} (h:∀ y∈l,p y=true) (hx:p x=true):∀ y∈l++[x],p y=true:=by
 intro y hy;rw [List.mem_append] at hy
 rcases hy with hy | hy
 · exact h y hy
 · simp at hy;rw [hy];exact hx
def colV (l:List Int):Int:=l.foldl (fun n x=>26*n+(x - 64)) 0
theorem colV_snoc (l:List Int) (x:Int):colV (l++[x])=26*colV l+(x - 64):=by unfold colV;rw [List.foldl_append];rfl
theorem col_small (l:List Int) (h:∀ x∈l,isCap x=true) (hl:l.length≤2):colV l≤702∧(l=[]∧colV l=0∧isCol l=false∨0<colV l∧isCol l=true∧readColL l=colV l - 1):=by
 match l,hl,h with
 | [],_,_=>exact ⟨by decide,.inl ⟨rfl,rfl,rfl⟩⟩
 | [a],_,h =>
   have ha:=h a (by simp)
   have:=cap_bd ha
   have hv:colV [a]=a - 64:=by unfold colV;simp
   have hi:isCol [a]=true:=by unfold isCol;simp [ha]
   refine ⟨by omega,.inr ⟨by omega,hi, ?_⟩⟩
   unfold readColL;rw [if_pos hi,hv];simp;omega
 | [a,b],_,h =>
   have ha:=h a (by simp)
   have hb:=h b (by simp)
   have g1:=cap_bd ha
   have g2:=cap_bd hb
   have hv:colV [a,b]=26*(a - 64)+(b - 64):=by unfold colV;simp
   have hi:isCol [a,b]=true:=by unfold isCol;simp [ha,hb]
   refine ⟨by omega,.inr ⟨by omega,hi, ?_⟩⟩
   unfold readColL;rw [if_pos hi,hv];simp;omega
theorem isCol_long {l:List Int} (h:2<l.length):isCol l=false:=by unfold isCol;rw [decide_eq_false (by omega),Bool.false_and]
theorem col_end (d:Rd) (m:Nat) (v:Int) (b:Nat) (w wr:World) (hv:colV (d.rest.take m)=v) (hall:∀ x∈d.rest.take m,isCap x=true) (hm:m≤2) (hk:d.k+m≤d.s.size) (hstop:∀ x,d.rest[m]? = some x→isCap x=false) (e:Ending) (he:e = .returned (.bool (decide (0<v))))
 (hr:RdAt wr b { { d with k:=d.k+m } with c:=v - 1 }) (hg:w.grownBy wr (some b)):Part d.col b w e wr:=by
 subst he
 have hsp:=span_stop isCap d.rest m hall hstop
 have hlen:(d.rest.take m).length=m:=by rw [List.length_take,length_rest];omega
 refine ⟨hg, ?_⟩
 unfold Rd.col
 rw [hsp]
 rcases (col_small (d.rest.take m) hall (by omega)).2 with ⟨h1,h2,h3⟩ | ⟨h1,h2,h3⟩
 · rw [h3,if_neg (by simp)]
   exact .inr ⟨rfl,by rw [decide_eq_false (by omega)]⟩
 · rw [if_pos h2]
   refine .inl ⟨_,rfl,by rw [decide_eq_true (by omega)], ?_⟩
   rw [h3,hv,hlen];exact hr
set_option maxRecDepth 100000 in
set_option maxHeartbeats 800000 in
theorem colPart_any (b:Nat) (d:Rd) (w:World) (h:RdAt w b d) (_hs:d.s.size≤1000000) (_hk:d.k≤d.s.size) :
 Calls Tryz.prog 198 #[.pointer (some ⟨b,0,none⟩)] w (Part d.col b w):=by
 have HR:=Lib.hid h;clear h
 go_enter Tryz.func198,Tryz.ntmps198
 go_wp2_with fail
 go_loopw [3] (fun n wr=>∃ (m:Nat) (v:Int),n = .int .i64 v∧0≤v∧v≤702∧d.k+m≤d.s.size∧Hid (colV (d.rest.take m)=v∧(∀ x∈d.rest.take m,isCap x=true)∧m≤2)∧Hid (RdAt wr b { d with k:=d.k+m })∧Hid (w.grownBy wr (some b)))
  (fun n _=>800 - (intOf n).toNat)
 case atStart=>exact ⟨0,0,rfl,by omega,by omega,by omega,Lib.hid ⟨rfl,by simp,by omega⟩,Lib.hid HR.out,Lib.hid (grownBy.refl' _ _)⟩
 case round =>
  obtain ⟨m,v,rfl,hv0,hv1,hkm,HM,HRD,HG⟩:=hrel
  obtain ⟨c0,c1,c2,c3,c4,c5,c6⟩:=HRD.out.facts
  have f1:=HRD.out.frozen 1
  have f3:=HRD.out.frozen 3
  clear c2 c4 c5 c6
  simp only at c0 c1 c3
  obtain ⟨p,hp⟩:∃ p:Nat,d.k+m=p:=⟨_,rfl⟩
  rw [hp] at c1
  by_cases hlt:p<d.s.size
  · have hlt2 : (p:Int)<(d.s.size:Int):=by omega
    obtain ⟨a,ha⟩:∃ a:Int,(d.s[p].toNat:Int)=a:=⟨_,rfl⟩
    have ha1:0≤a∧a≤255:=by have:=d.s[p].toNat_lt;omega
    have hnx:d.rest.take (m+1)=d.rest.take m++[a]:=by subst hp;rw [take_next d m hlt,ha]
    have hat:d.rest[m]? = some a:=by subst hp;unfold Rd.rest;rw [List.getElem?_drop,sb_at d.s _ hlt,ha]
    have HNX:=Lib.hid hnx;clear hnx
    have HAT:=Lib.hid hat;clear hat
    have HP:=Lib.hid hp;clear hp
    by_cases hc:isCap a=true
    · have hcb := cap_bd hc
      have hvn:colV (d.rest.take (m+1))=26*v+(a - 64):=by rw [HNX.out,colV_snoc,HM.out.1]
      have hall:=all_snoc HM.out.2.1 hc
      rw [← HNX.out] at hall
      have HVN:=Lib.hid hvn;clear hvn
      have HALL:=Lib.hid hall;clear hall
      by_cases hbig:702<v*26+(a - 65)+1
      · have hno:d.col=none:=by
         have h2:¬ m+1≤2:=by
          intro h2
          have:=(col_small _ HALL.out (by rw [List.length_take];omega)).1
          rw [HVN.out] at this;omega
         have h3:isCol (d.rest.takeWhile isCap)=false:=by
          apply isCol_long
          rw [span_over isCap d.rest (m+1) HALL.out,List.length_append,List.length_take,length_rest]
          have:=HP.out;omega
         unfold Rd.col;rw [h3];rfl
        have HNO:=Lib.hid hno;clear hno
        go_wp2_with fail
        go_quiet ((go_at_call 172;exact quiet_call (isCapital_any _ (by omega) (by omega) _)))
        go_wp2_with fail
        go_quiet (fail)
        go_wp2_with fail
        go_ret
        exact ⟨grownBy.drewN' HG.out _,.inr ⟨HNO.out,rfl⟩⟩
      · go_wp2_with fail
        go_quiet ((go_at_call 172;exact quiet_call (isCapital_any _ (by omega) (by omega) _)))
        go_wp2_with fail
        go_quiet (fail)
        go_wp2_with fail
        go_roundw
        case rel =>
         have hm2:m+1≤2:=by
          have h3:=HM.out.2.2
          by_cases h:m=2
          · exfalso
            have hl:(d.rest.take m).length=2:=by rw [List.length_take,length_rest];have:=HP.out;omega
            match hq:d.rest.take m,hl with
            | [x,y],_ =>
              have h1:=HM.out.2.1
              have h4:=HM.out.1
              rw [hq] at h1 h4
              have g1:=cap_bd (h1 x (by simp))
              have g2:=cap_bd (h1 y (by simp))
              have hv:colV [x,y]=26*(x - 64)+(y - 64):=by unfold colV;simp
              omega
          · omega
         refine ⟨m+1,v*26+(a - 65)+1,rfl,by omega,by omega,by have:=HP.out;omega,Lib.hid ⟨by rw [HVN.out];omega,HALL.out,hm2⟩,Lib.hid ?_,Lib.hid (grownBy.setCell' (grownBy.drewN' HG.out _) _ _)⟩
         exact RdAt.setNext HRD.out HP.out _
        case measure=>simp [intOf];omega
    · have hc':isCap a=false:=by simpa using hc
      clear hc
      have hend:=fun (e:Ending) (wz:World)=>col_end d m v b w wz HM.out.1 HM.out.2.1 HM.out.2.2 hkm (fun x hx=>by rw [HAT.out] at hx;injection hx with hx;rw [← hx];exact hc') e
      have HEND:=Lib.hid hend;clear hend
      go_wp2_with fail
      go_quiet ((go_at_call 172;exact quiet_call (isCapital_any _ (by omega) (by omega) _)))
      go_wp2_with fail
      go_ret
      exact HEND.out _ _ rfl ((HRD.out.drewN _).setC _) (grownBy.setCell' (grownBy.drewN' HG.out _) _ _)
  · have hlt2:¬ (p:Int)<(d.s.size:Int):=by omega
    have hend:=fun (e:Ending) (wz:World)=>col_end d m v b w wz HM.out.1 HM.out.2.1 HM.out.2.2 hkm (fun x hx=>by have h1:=(List.getElem?_eq_some_iff.1 hx).1;rw [length_rest] at h1;omega) e
    have HEND:=Lib.hid hend;clear hend
    clear hp
    go_wp2_with fail
    go_quiet (fail)
    go_wp2_with fail
    go_ret
    exact HEND.out _ _ rfl ((HRD.out.drewN _).setC _) (grownBy.setCell' (grownBy.drewN' HG.out _) _ _)
theorem row_end (d:Rd) (m:Nat) (v:Int) (b:Nat) (w wr:World) (hv:valL (d.rest.take m)=v) (hall:∀ x∈d.rest.take m,isNum x=true) (hz:m=0∧v=0∨1≤v∧d.rest.take m≠[]∧(d.rest.take m).head? ≠ some 48) (hv9:v≤999) (hk:d.k+m≤d.s.size) (hstop:∀ x,d.rest[m]? = some x→isNum x=false) (e:Ending) (he:e = .returned (.bool (decide (0<v))))
 (hr:RdAt wr b { { d with k:=d.k+m } with r:=v - 1 }) (hg:w.grownBy wr (some b)):Part d.row b w e wr:=by
 subst he
 have hsp:=span_stop isNum d.rest m hall hstop
 have hlen:(d.rest.take m).length=m:=by rw [List.length_take,length_rest];omega
 refine ⟨hg, ?_⟩
 unfold Rd.row
 rw [hsp]
 rcases hz with ⟨h1,h2⟩ | ⟨h1,h2,h3⟩
 · have:isRow (d.rest.take m)=false:=by rw [h1];rfl
   rw [this,if_neg (by simp)]
   exact .inr ⟨rfl,by rw [decide_eq_false (by omega)]⟩
 · have:isRow (d.rest.take m)=true:=by unfold isRow;rw [decide_eq_true_iff];exact ⟨h2,h3,by omega⟩
   rw [if_pos this]
   refine .inl ⟨_,rfl,by rw [decide_eq_true (by omega)], ?_⟩
   rw [hv,hlen];exact hr
theorem head_snoc {l:List Int} {x:Int} (h:l≠[]):(l++[x]).head? = l.head? := by cases l with | nil=>exact absurd rfl h | cons a l=>rfl
set_option maxRecDepth 100000 in
set_option maxHeartbeats 800000 in
theorem rowPart_any (b:Nat) (d:Rd) (w:World) (h:RdAt w b d) (_hs:d.s.size≤1000000) (_hk:d.k≤d.s.size) :
 Calls Tryz.prog 200 #[.pointer (some ⟨b,0,none⟩)] w (Part d.row b w):=by
 have HR:=Lib.hid h;clear h
 go_enter Tryz.func200,Tryz.ntmps200
 go_wp2_with fail
 go_loopw [3] (fun n wr=>∃ (m:Nat) (v:Int),n = .int .i64 v∧0≤v∧v≤999∧d.k+m≤d.s.size∧Hid (valL (d.rest.take m)=v∧(∀ x∈d.rest.take m,isNum x=true)∧(m=0∧v=0∨1≤v∧d.rest.take m≠[]∧(d.rest.take m).head? ≠ some 48))∧Hid (RdAt wr b { d with k:=d.k+m })∧Hid (w.grownBy wr (some b)))
  (fun n _=>1200 - (intOf n).toNat)
 case atStart=>exact ⟨0,0,rfl,by omega,by omega,by omega,Lib.hid ⟨rfl,by simp,.inl ⟨rfl,rfl⟩⟩,Lib.hid HR.out,Lib.hid (grownBy.refl' _ _)⟩
 case round =>
  obtain ⟨m,v,rfl,hv0,hv1,hkm,HM,HRD,HG⟩:=hrel
  obtain ⟨c0,c1,c2,c3,c4,c5,c6⟩:=HRD.out.facts
  have f1:=HRD.out.frozen 1
  have f4:=HRD.out.frozen 4
  clear c2 c3 c5 c6
  simp only at c0 c1 c4
  obtain ⟨p,hp⟩:∃ p:Nat,d.k+m=p:=⟨_,rfl⟩
  rw [hp] at c1
  by_cases hlt:p<d.s.size
  · have hlt2:(p:Int)<(d.s.size:Int):=by omega
    obtain ⟨a,ha⟩:∃ a:Int,(d.s[p].toNat:Int)=a:=⟨_,rfl⟩
    have ha1:0≤a∧a≤255:=by have:=d.s[p].toNat_lt;omega
    have hnx:d.rest.take (m+1)=d.rest.take m++[a]:=by subst hp;rw [take_next d m hlt,ha]
    have hat:d.rest[m]? = some a:=by subst hp;unfold Rd.rest;rw [List.getElem?_drop,sb_at d.s _ hlt,ha]
    have HNX:=Lib.hid hnx;clear hnx
    have HAT:=Lib.hid hat;clear hat
    have HP:=Lib.hid hp;clear hp
    by_cases hc:isNum a=true
    · have hcb:=num_bd hc
      have hvn:valL (d.rest.take (m+1))=10*v+(a - 48):=by rw [HNX.out,valL_snoc,HM.out.1]
      have hall:=all_snoc HM.out.2.1 hc
      rw [← HNX.out] at hall
      have HVN:=Lib.hid hvn;clear hvn
      have HALL:=Lib.hid hall;clear hall
      by_cases hbad:v*10+(a - 48)=0∨999<v*10+(a - 48)
      · have hno:d.row=none:=by
         have h3:isRow (d.rest.takeWhile isNum)=false:=by
          rw [span_over isNum d.rest (m+1) HALL.out]
          unfold isRow;rw [decide_eq_false_iff_not]
          rintro ⟨_,h2,h3⟩
          rcases hbad with h | h
          · rcases HM.out.2.2 with ⟨hm0,_⟩ | ⟨hm1,_⟩
            · apply h2;rw [HNX.out,hm0];simp;omega
            · omega
          · have:=valL_ge ((d.rest.drop (m+1)).takeWhile isNum) (d.rest.take (m+1)) (take_all isNum _) (by rw [HVN.out];omega)
            rw [HVN.out] at this;omega
         unfold Rd.row;rw [h3];rfl
        have HNO:=Lib.hid hno;clear hno
        by_cases hz:v*10+(a - 48)=0
        · have hzb:(v*10+(a - 48) == 0)=true:=beq_iff_eq.2 hz
          clear hbad hz
          go_wp2_with fail
          go_quiet ((go_at_call 139;exact quiet_call (isDigit_any _ (by omega) (by omega) _)))
          go_wp2_with fail
          go_quiet (fail)
          go_wp2_with fail
          go_ret
          exact ⟨grownBy.drewN' HG.out _,.inr ⟨HNO.out,rfl⟩⟩
        · have hzb:(v*10+(a - 48) == 0)=false:=beq_eq_false_iff_ne.2 hz
          have h9:999<v*10+(a - 48):=by omega
          clear hbad hz
          go_wp2_with fail
          go_quiet ((go_at_call 139;exact quiet_call (isDigit_any _ (by omega) (by omega) _)))
          go_wp2_with fail
          go_quiet (fail)
          go_wp2_with fail
          go_ret
          exact ⟨grownBy.drewN' HG.out _,.inr ⟨HNO.out,rfl⟩⟩
      · have hz:¬ v*10+(a - 48)=0:=by omega
        have hzb:(v*10+(a - 48) == 0)=false:=beq_eq_false_iff_ne.2 hz
        have h9:¬ 999<v*10+(a - 48):=by omega
        have h9':v*10+(a - 48)≤999:=by omega
        have h1':1≤v*10+(a - 48):=by omega
        clear hbad hz
        go_wp2_with fail
        go_quiet ((go_at_call 139;exact quiet_call (isDigit_any _ (by omega) (by omega) _)))
        go_wp2_with fail
        go_quiet (fail)
        go_wp2_with fail
        go_roundw
        case rel =>
         refine ⟨m+1,v*10+(a - 48),rfl,by omega,by omega,by have:=HP.out;omega,Lib.hid ⟨by rw [HVN.out];omega,HALL.out,.inr ⟨by omega, ?_, ?_⟩⟩,Lib.hid ?_,Lib.hid (grownBy.setCell' (grownBy.drewN' HG.out _) _ _)⟩
         · rw [HNX.out];simp
         · rw [HNX.out]
           rcases HM.out.2.2 with ⟨hm0,hm1⟩ | ⟨_,h2,h3⟩
           · rw [hm0];simp;omega
           · rw [head_snoc h2];exact h3
         · exact RdAt.setNext HRD.out HP.out _
        case measure=>simp [intOf];omega
    · have hc':isNum a=false:=by simpa using hc
      clear hc
      have hend:=fun (e:Ending) (wz:World)=>row_end d m v b w wz HM.out.1 HM.out.2.1 HM.out.2.2 hv1 hkm (fun x hx=>by rw [HAT.out] at hx;injection hx with hx;rw [← hx];exact hc') e
      have HEND:=Lib.hid hend;clear hend
      go_wp2_with fail
      go_quiet ((go_at_call 139;exact quiet_call (isDigit_any _ (by omega) (by omega) _)))
      go_wp2_with fail
      go_ret
      exact HEND.out _ _ rfl ((HRD.out.drewN _).setR _) (grownBy.setCell' (grownBy.drewN' HG.out _) _ _)
  · have hlt2:¬ (p:Int)<(d.s.size:Int):=by omega
    have hend:=fun (e:Ending) (wz:World)=>row_end d m v b w wz HM.out.1 HM.out.2.1 HM.out.2.2 hv1 hkm (fun x hx=>by have h1:=(List.getElem?_eq_some_iff.1 hx).1;rw [length_rest] at h1;omega) e
    have HEND:=Lib.hid hend;clear hend
    clear hp
    go_wp2_with fail
    go_quiet (fail)
    go_wp2_with fail
    go_ret
    exact HEND.out _ _ rfl ((HRD.out.drewN _).setR _) (grownBy.setCell' (grownBy.drewN' HG.out _) _ _)
end Go.Proofs.YtecpbligblnonaaGreatDoor
namespace Go.Proofs.YtecpbligblnonaaGreatDoor
open Go.RowKit
def isBl (c:Int):Bool:=decide (c=32)
def isBeg (c:Int):Bool:=isLet c||decide (c=36)
set_option maxHeartbeats 400000 in
theorem lexBlank_any (c:Int) (_h0:0≤c) (_h1:c≤255) (w:World) :
 Calls Tryz.prog 116 #[.int .u8 c] w fun e w'=>e = .returned (.bool (isBl c))∧w=w':=by
 go_enter Tryz.func116,Tryz.ntmps116
 go_wp2
 all_goals go_ret
 all_goals exact ⟨ret_bool (by unfold isBl;first | rfl | (symm;rw [decide_eq_true_iff];omega) | (symm;rw [decide_eq_false_iff_not];omega) | (rw [decide_eq_decide];omega)),rfl⟩
set_option maxHeartbeats 400000 in
theorem lexDigit_any (c:Int) (_h0:0≤c) (_h1:c≤255) (w:World) :
 Calls Tryz.prog 153 #[.int .u8 c] w fun e w'=>e = .returned (.bool (isNum c))∧w=w':=by
 go_enter Tryz.func153,Tryz.ntmps153
 go_wp2
 all_goals go_ret
 all_goals exact ⟨ret_bool (by unfold isNum;first | rfl | (symm;rw [decide_eq_true_iff];omega) | (symm;rw [decide_eq_false_iff_not];omega) | (rw [decide_eq_decide];omega)),rfl⟩
set_option maxHeartbeats 400000 in
theorem lexCapital_any (c:Int) (_h0:0≤c) (_h1:c≤255) (w:World) :
 Calls Tryz.prog 177 #[.int .u8 c] w fun e w'=>e = .returned (.bool (isCap c))∧w=w':=by
 go_enter Tryz.func177,Tryz.ntmps177
 go_wp2
 all_goals go_ret
 all_goals exact ⟨ret_bool (by unfold isCap;first | rfl | (symm;rw [decide_eq_true_iff];omega) | (symm;rw [decide_eq_false_iff_not];omega) | (rw [decide_eq_decide];omega)),rfl⟩
theorem isBeg_cap {c:Int} (h:isCap c=true):isBeg c=true:=by unfold isBeg;rw [isLet_cap h];rfl
theorem isBeg_nocap {c:Int} (h:isCap c=false):isBeg c=decide (97≤c∧c≤122∨c=36):=by unfold isBeg;rw [isLet_nocap h];simp
theorem isWord_beg {c:Int}:isWord c=(isBeg c||(isNum c||decide (c=33))):=by
 unfold isWord isBeg;rw [show decide (c=36∨c=33)=(decide (c=36)||decide (c=33)) from by simp]
 cases isLet c <;> cases isNum c <;> cases decide (c=36) <;> simp
set_option maxHeartbeats 400000 in
theorem beginsWord_any (c:Int) (_h0:0≤c) (_h1:c≤255) (w:World) :
 Calls Tryz.prog 157 #[.int .u8 c] w fun e w'=>e = .returned (.bool (isBeg c))∧w=w':=by
 by_cases hc:isCap c=true
 · have HL:=Lib.hid (isBeg_cap hc)
   go_enter Tryz.func157,Tryz.ntmps157
   go_wp2_with (go_at_call 177;((with_reducible refine (lexCapital_any _ ?_ ?_ _).mono ?_);(first | omega | skip);(first | omega | skip);rintro e w' ⟨rfl,rfl⟩))
   all_goals go_ret
   all_goals exact ⟨ret_bool (by rw [HL.out]),rfl⟩
 · have hc':isCap c=false:=by simpa using hc
   have HL:=Lib.hid (isBeg_nocap hc');clear hc
   go_enter Tryz.func157,Tryz.ntmps157
   go_wp2_with (go_at_call 177;((with_reducible refine (lexCapital_any _ ?_ ?_ _).mono ?_);(first | omega | skip);(first | omega | skip);rintro e w' ⟨rfl,rfl⟩))
   all_goals go_ret
   all_goals exact ⟨ret_bool (by rw [HL.out];first | rfl | (symm;rw [decide_eq_true_iff];omega) | (symm;rw [decide_eq_false_iff_not];omega) | (rw [Bool.eq_iff_iff];simp only [Bool.or_eq_true,decide_eq_true_iff,beq_iff_eq];omega)),rfl⟩
set_option maxHeartbeats 400000 in
theorem isOfWord_any (c:Int) (_h0:0≤c) (_h1:c≤255) (w:World) :
 Calls Tryz.prog 178 #[.int .u8 c] w fun e w'=>e = .returned (.bool (isWord c))∧w=w':=by
 have HW:=Lib.hid (isWord_beg (c:=c))
 cases hb:isBeg c
 · cases hn:isNum c
   · rw [hb,hn] at HW
     go_enter Tryz.func178,Tryz.ntmps178
     go_wp2_with (first
      | (go_at_call 157;((with_reducible refine (beginsWord_any _ ?_ ?_ _).mono ?_);(first | omega | skip);(first | omega | skip);rintro e w' ⟨rfl,rfl⟩;rw [hb]))
      | (go_at_call 153;((with_reducible refine (lexDigit_any _ ?_ ?_ _).mono ?_);(first | omega | skip);(first | omega | skip);rintro e w' ⟨rfl,rfl⟩;rw [hn])))
     all_goals go_ret
     all_goals exact ⟨ret_bool (by rw [HW.out];first | rfl | (rw [Bool.eq_iff_iff];simp only [Bool.or_eq_true,Bool.and_eq_true,Bool.false_or,decide_eq_true_iff,beq_iff_eq])),rfl⟩
   · rw [hb,hn] at HW
     go_enter Tryz.func178,Tryz.ntmps178
     go_wp2_with (first
      | (go_at_call 157;((with_reducible refine (beginsWord_any _ ?_ ?_ _).mono ?_);(first | omega | skip);(first | omega | skip);rintro e w' ⟨rfl,rfl⟩;rw [hb]))
      | (go_at_call 153;((with_reducible refine (lexDigit_any _ ?_ ?_ _).mono ?_);(first | omega | skip);(first | omega | skip);rintro e w' ⟨rfl,rfl⟩;rw [hn])))
     all_goals go_ret
     all_goals exact ⟨ret_bool (by rw [HW.out];rfl),rfl⟩
 · rw [hb] at HW
   go_enter Tryz.func178,Tryz.ntmps178
   go_wp2_with (first
    | (go_at_call 157;((with_reducible refine (beginsWord_any _ ?_ ?_ _).mono ?_);(first | omega | skip);(first | omega | skip);rintro e w' ⟨rfl,rfl⟩;rw [hb])))
   all_goals go_ret
   all_goals exact ⟨ret_bool (by rw [HW.out];rfl),rfl⟩
def LxAt (w:World) (b:Nat) (s:ByteArray) (k:Nat):Prop:=w.heap[b]? = some (.cells #[.string s,.int .i64 (k:Int)] 122)
theorem LxAt.lt {w:World} {b:Nat} {s:ByteArray} {k:Nat} (h:LxAt w b s k):b<w.heap.size:=(Array.getElem?_eq_some_iff.1 h).1
theorem LxAt.drewN {w:World} {b:Nat} {s:ByteArray} {k:Nat} (h:LxAt w b s k) (n:Nat):LxAt (w.drewN n) b s k:=h
theorem LxAt.below {w w':World} {B b:Nat} {s:ByteArray} {k:Nat} (h:LxAt w b s k) (hb:Below B w w') (hB:b<B):LxAt w' b s k:=by unfold LxAt;rw [hb.block b hB];exact h
theorem LxAt.facts {w:World} {b:Nat} {s:ByteArray} {k:Nat} (h:LxAt w b s k):w.cell? ⟨b,0,none⟩=some (.string s)∧w.cell? ⟨b,1,none⟩=some (.int .i64 (k:Int)) :=
 ⟨by rw [cell_of_row w b 0 _ _ _ h];rfl,by rw [cell_of_row w b 1 _ _ _ h];rfl⟩
theorem LxAt.frozen {w:World} {b:Nat} {s:ByteArray} {k:Nat} (h:LxAt w b s k) (j:Nat):w.frozen? ⟨b,j,none⟩=false:=frozen_of_row w b j _ _ h
theorem LxAt.setK {w:World} {b:Nat} {s:ByteArray} {k:Nat} (h:LxAt w b s k) (m:Nat):LxAt (w.setCell ⟨b,1,none⟩ (.int .i64 (m:Int))) b s m:=by unfold LxAt;rw [heap_setCell_same w b 1 _ _ _ h];rfl
theorem LxAt.setNext {w:World} {b:Nat} {s:ByteArray} {k:Nat} (h:LxAt w b s k):LxAt (w.setCell ⟨b,1,none⟩ (.int .i64 ((k:Int)+1))) b s (k+1):=h.setK (k+1)
theorem LxAt.new (w:World) (s:ByteArray):LxAt (w.alloc (.cells #[.string s,.int .i64 0] 122)) w.heap.size s 0:=(Go.MapKept.heap_alloc w _).1
def tokA (t:Tk):Array Value:=#[.int .i64 t.kind,.string t.text,.int .i64 t.num,.string t.sh,.int .i64 t.c,.int .i64 t.r,.bool t.ac,.bool t.ar,.int .i64 t.pos]
def TkAt (w:World) (b:Nat) (t:Tk):Prop:=w.heap[b]? = some (.cells (tokA t) 86)
theorem TkAt.lt {w:World} {b:Nat} {t:Tk} (h:TkAt w b t):b<w.heap.size:=(Array.getElem?_eq_some_iff.1 h).1
theorem TkAt.below {w w':World} {B b:Nat} {t:Tk} (h:TkAt w b t) (hb:Below B w w') (hB:b<B):TkAt w' b t:=by unfold TkAt;rw [hb.block b hB];exact h
theorem TkAt.drewN {w:World} {b:Nat} {t:Tk} (h:TkAt w b t) (n:Nat):TkAt (w.drewN n) b t:=h
theorem TkAt.frozen {w:World} {b:Nat} {t:Tk} (h:TkAt w b t) (j:Nat):w.frozen? ⟨b,j,none⟩=false:=frozen_of_row w b j _ _ h
theorem TkAt.grown {w w':World} {b c:Nat} {t:Tk} (h:TkAt w b t) (hg:w.grownBy w' (some c)) (hne:b≠c):TkAt w' b t:=by
 unfold TkAt;rw [hg.block b h.lt (by intro e;exact hne (Option.some.inj e))];exact h
theorem TkAt.new (w:World) (t:Tk):TkAt (w.alloc (.cells (tokA t) 86)) w.heap.size t:=(Go.MapKept.heap_alloc w _).1
theorem tok_size:(Tryz.prog.info? 86).map (·.size)=some 9:=by kernel_rfl
theorem tok_one (t:Tk):∀ v∈(tokA t).toList,v.oneCell'=true:=by
 intro v hv
 simp only [tokA,List.mem_cons,List.not_mem_nil,or_false] at hv
 rcases hv with rfl | rfl | rfl | rfl | rfl | rfl | rfl | rfl | rfl <;> rfl
end Go.Proofs.YtecpbligblnonaaGreatDoor
namespace Go.Proofs
open Go.Shelf
def Tryz.lays137_ren:Go.Shelf.Ren:=⟨fun | 137=>220 | 217=>231 | 266=>239 | n=>n,fun | 9=>9 | 5=>5 | 3=>3 | n=>n,fun | n=>n⟩
theorem Tryz.lays137:Go.Proofs.Lays.n137 Tryz.prog Tryz.lays137_ren:={
 mixed:=by kernel_rfl
 f137:=Tryz.func220.trans (congrArg some (by kernel_rfl))
 f217:=Tryz.func231.trans (congrArg some (by kernel_rfl))
 f266:=Tryz.func239.trans (congrArg some (by kernel_rfl))
 t3:=Tryz.underlying3
 a3:=Tryz.isAgg3
 z3:=Tryz.sizeOf3
 v3:=Tryz.zeroValue3
 t5:=Tryz.underlying5
 a5:=Tryz.isAgg5
 z5:=Tryz.sizeOf5
 v5:=Tryz.zeroValue5
 t9:=Tryz.underlying9
 a9:=Tryz.isAgg9
 z9:=Tryz.sizeOf9
 v9:=Tryz.zeroValue9 }
open Go.RowKit in
theorem Tryz.strings_IndexByte (s:ByteArray) (c:Int) (w:World) :
 Calls Tryz.prog 220 #[.string s,.int .u8 c] w fun e w'=>e = .returned (.int .i64 (Lib.indexByte s.data.toList c.toNat.toUInt8))∧w'=w:=Any.strings_IndexByte Tryz.lays137 s c w
def Tryz.laysM171_ren:Go.Shelf.Ren:=⟨fun | 171=>129 | 243=>165 | 246=>183 | 283=>207 | 284=>208 | 285=>209 | 286=>210 | 129=>226 | 317=>225 | 318=>227 | 319=>228 | 320=>229 | 337=>237 | 338=>238 | n=>n,fun | 3=>3 | 9=>9 | 2=>2 | 4=>4 | 171=>209 | 0=>0 | 53=>103 | 37=>22 | 5=>5 | 173=>212 | 212=>225 | 51=>226 | 20=>20 | 213=>227 | 46=>220 | 232=>241 | 233=>242 | n=>n,fun | 17=>5 | 18=>9 | 19=>10 | n=>n⟩
theorem Tryz.laysM171:Go.Proofs.LaysM.n171 Tryz.prog Tryz.laysM171_ren:={
 mixed:=by kernel_rfl
 f129:=Tryz.func226.trans (congrArg some (by kernel_rfl))
 f171:=Tryz.func129.trans (congrArg some (by kernel_rfl))
 f243:=Tryz.func165.trans (congrArg some (by kernel_rfl))
 f246:=Tryz.func183.trans (congrArg some (by kernel_rfl))
 f283:=Tryz.func207.trans (congrArg some (by kernel_rfl))
 f284:=Tryz.func208.trans (congrArg some (by kernel_rfl))
 f285:=Tryz.func209.trans (congrArg some (by kernel_rfl))
 f286:=Tryz.func210.trans (congrArg some (by kernel_rfl))
 f317:=Tryz.func225.trans (congrArg some (by kernel_rfl))
 f318:=Tryz.func227.trans (congrArg some (by kernel_rfl))
 f319:=Tryz.func228.trans (congrArg some (by kernel_rfl))
 f320:=Tryz.func229.trans (congrArg some (by kernel_rfl))
 f337:=Tryz.func237.trans (congrArg some (by kernel_rfl))
 f338:=Tryz.func238.trans (congrArg some (by kernel_rfl))
 t0:=Tryz.underlying0
 a0:=Tryz.isAgg0
 z0:=Tryz.sizeOf0
 v0:=Tryz.zeroValue0
 t2:=Tryz.underlying2
 a2:=Tryz.isAgg2
 z2:=Tryz.sizeOf2
 v2:=Tryz.zeroValue2
 t3:=Tryz.underlying3
 a3:=Tryz.isAgg3
 z3:=Tryz.sizeOf3
 v3:=Tryz.zeroValue3
 t4:=Tryz.underlying4
 a4:=Tryz.isAgg4
 z4:=Tryz.sizeOf4
 v4:=Tryz.zeroValue4
 t5:=Tryz.underlying5
 a5:=Tryz.isAgg5
 z5:=Tryz.sizeOf5
 v5:=Tryz.zeroValue5
 t9:=Tryz.underlying9
 a9:=Tryz.isAgg9
 z9:=Tryz.sizeOf9
 v9:=Tryz.zeroValue9
 t20:=Tryz.underlying20
 a20:=Tryz.isAgg20
 z20:=Tryz.sizeOf20
 v20:=Tryz.zeroValue20
 t37:=Tryz.underlying22
 a37:=Tryz.isAgg22
 z37:=Tryz.sizeOf22
 v37:=Tryz.zeroValue22
 t46:=Tryz.underlying220
 a46:=Tryz.isAgg220
 z46:=Tryz.sizeOf220
 v46:=Tryz.zeroValue220
 t51:=Tryz.underlying226
 a51:=Tryz.isAgg226
 z51:=Tryz.sizeOf226
 v51:=Tryz.zeroValue226
 t53:=Tryz.underlying103
 a53:=Tryz.isAgg103
 z53:=Tryz.sizeOf103
 v53:=Tryz.zeroValue103
 t171:=Tryz.underlying209
 a171:=Tryz.isAgg209
 z171:=Tryz.sizeOf209
 v171:=Tryz.zeroValue209
 t173:=Tryz.underlying212
 a173:=Tryz.isAgg212
 z173:=Tryz.sizeOf212
 v173:=Tryz.zeroValue212
 t212:=Tryz.underlying225
 a212:=Tryz.isAgg225
 z212:=Tryz.sizeOf225
 v212:=Tryz.zeroValue225
 t213:=Tryz.underlying227
 a213:=Tryz.isAgg227
 z213:=Tryz.sizeOf227
 t232:=Tryz.underlying241
 a232:=Tryz.isAgg241
 z232:=Tryz.sizeOf241
 v232:=Tryz.zeroValue241
 t233:=Tryz.underlying242
 a233:=Tryz.isAgg242
 z233:=Tryz.sizeOf242
 v233:=Tryz.zeroValue242
 g17:=by kernel_rfl
 g18:=by kernel_rfl
 g19:=by kernel_rfl
 i0:=by kernel_rfl
 i2:=by kernel_rfl
 i3:=by kernel_rfl
 i4:=by kernel_rfl
 i5:=by kernel_rfl
 i9:=by kernel_rfl
 i20:=by kernel_rfl
 i37:=by kernel_rfl
 i46:=by kernel_rfl
 i51:=by kernel_rfl
 i53:=by kernel_rfl
 i171:=by kernel_rfl
 i173:=by kernel_rfl
 i212:=by kernel_rfl
 i232:=by kernel_rfl
 i233:=by kernel_rfl
 m17:=by kernel_rfl
 m18:=by kernel_rfl
 m19:=by kernel_rfl }
open Go.RowKit Go.Sort Go.Lib in
theorem Tryz.strconv_Itoa (n : Int) (h0 : -9223372036854775808 ≤ n) (h1 : n ≤ 9223372036854775807) (w : World) (htab : Lib.TabIs Tryz.prog w "internal/strconv.uint64pow10" .u64 Lib.pow10Tab) :
 Calls Tryz.prog 129 #[.int .i64 n] w fun e w'=>e = .returned (.string ⟨(Lib.itoa n).toArray⟩)∧∃ k os,w'=grow (w.drewN k) os:=Any.strconv_Itoa Tryz.laysM171 n h0 h1 w htab
def Tryz.laysC172_ren:Go.Shelf.Ren:=⟨fun | 172=>164 | 244=>181 | 245=>182 | 247=>202 | 279=>203 | 280=>204 | 281=>205 | 282=>206 | 287=>222 | 316=>223 | 171=>129 | 205=>224 | 321=>235 | 322=>236 | 243=>165 | 246=>183 | 283=>207 | 284=>208 | 285=>209 | 286=>210 | 129=>226 | 317=>225 | 318=>227 | 319=>228 | 320=>229 | 337=>237 | 338=>238 | n=>n,fun | 9=>9 | 3=>3 | 75=>109 | 76=>110 | 4=>4 | 5=>5 | 167=>203 | 37=>22 | 0=>0 | 85=>204 | 2=>2 | 168=>206 | 53=>103 | 175=>218 | 46=>220 | 210=>222 | 127=>116 | 145=>237 | 143=>235 | 21=>21 | 171=>209 | 173=>212 | 212=>225 | 51=>226 | 20=>20 | 213=>227 | 232=>241 | 233=>242 | 80=>76 | n=>n,fun | 15=>3 | 16=>4 | 17=>5 | 18=>9 | 19=>10 | n=>n⟩
theorem Tryz.laysC172:Go.Proofs.LaysC.n172 Tryz.prog Tryz.laysC172_ren:={
 mixed:=by kernel_rfl
 f129:=Tryz.func226.trans (congrArg some (by kernel_rfl))
 f171:=Tryz.func129.trans (congrArg some (by kernel_rfl))
 f172:=Tryz.func164.trans (congrArg some (by kernel_rfl))
 f205:=Tryz.func224.trans (congrArg some (by kernel_rfl))
 f243:=Tryz.func165.trans (congrArg some (by kernel_rfl))
 f244:=Tryz.func181.trans (congrArg some (by kernel_rfl))
 f245:=Tryz.func182.trans (congrArg some (by kernel_rfl))
 f246:=Tryz.func183.trans (congrArg some (by kernel_rfl))
 f247:=Tryz.func202.trans (congrArg some (by kernel_rfl))
 f279:=Tryz.func203.trans (congrArg some (by kernel_rfl))
 f280:=Tryz.func204.trans (congrArg some (by kernel_rfl))
 f281:=Tryz.func205.trans (congrArg some (by kernel_rfl))
 f282:=Tryz.func206.trans (congrArg some (by kernel_rfl))
 f283:=Tryz.func207.trans (congrArg some (by kernel_rfl))
 f284:=Tryz.func208.trans (congrArg some (by kernel_rfl))
 f285:=Tryz.func209.trans (congrArg some (by kernel_rfl))
 f286:=Tryz.func210.trans (congrArg some (by kernel_rfl))
 f287:=Tryz.func222.trans (congrArg some (by kernel_rfl))
 f316:=Tryz.func223.trans (congrArg some (by kernel_rfl))
 f317:=Tryz.func225.trans (congrArg some (by kernel_rfl))
 f318:=Tryz.func227.trans (congrArg some (by kernel_rfl))
 f319:=Tryz.func228.trans (congrArg some (by kernel_rfl))
 f320:=Tryz.func229.trans (congrArg some (by kernel_rfl))
 f321:=Tryz.func235.trans (congrArg some (by kernel_rfl))
 f322:=Tryz.func236.trans (congrArg some (by kernel_rfl))
 f337:=Tryz.func237.trans (congrArg some (by kernel_rfl))
 f338:=Tryz.func238.trans (congrArg some (by kernel_rfl))
 t0:=Tryz.underlying0
 a0:=Tryz.isAgg0
 z0:=Tryz.sizeOf0
 v0:=Tryz.zeroValue0
 t2:=Tryz.underlying2
 a2:=Tryz.isAgg2
 z2:=Tryz.sizeOf2
 v2:=Tryz.zeroValue2
 t3:=Tryz.underlying3
 a3:=Tryz.isAgg3
 z3:=Tryz.sizeOf3
 v3:=Tryz.zeroValue3
 t4:=Tryz.underlying4
 a4:=Tryz.isAgg4
 z4:=Tryz.sizeOf4
 v4:=Tryz.zeroValue4
 t5:=Tryz.underlying5
 a5:=Tryz.isAgg5
 z5:=Tryz.sizeOf5
 v5:=Tryz.zeroValue5
 t9:=Tryz.underlying9
 a9:=Tryz.isAgg9
 z9:=Tryz.sizeOf9
 v9:=Tryz.zeroValue9
 t20:=Tryz.underlying20
 a20:=Tryz.isAgg20
 z20:=Tryz.sizeOf20
 v20:=Tryz.zeroValue20
 t21:=Tryz.underlying21
 a21:=Tryz.isAgg21
 z21:=Tryz.sizeOf21
 v21:=Tryz.zeroValue21
 t37:=Tryz.underlying22
 a37:=Tryz.isAgg22
 z37:=Tryz.sizeOf22
 v37:=Tryz.zeroValue22
 t46:=Tryz.underlying220
 a46:=Tryz.isAgg220
 z46:=Tryz.sizeOf220
 v46:=Tryz.zeroValue220
 t51:=Tryz.underlying226
 a51:=Tryz.isAgg226
 z51:=Tryz.sizeOf226
 v51:=Tryz.zeroValue226
 t53:=Tryz.underlying103
 a53:=Tryz.isAgg103
 z53:=Tryz.sizeOf103
 v53:=Tryz.zeroValue103
 t75:=Tryz.underlying109
 a75:=Tryz.isAgg109
 z75:=Tryz.sizeOf109
 v75:=Tryz.zeroValue109
 t76:=Tryz.underlying110
 a76:=Tryz.isAgg110
 z76:=Tryz.sizeOf110
 v76:=Tryz.zeroValue110
 t85:=Tryz.underlying204
 a85:=Tryz.isAgg204
 z85:=Tryz.sizeOf204
 v85:=Tryz.zeroValue204
 t127:=Tryz.underlying116
 a127:=Tryz.isAgg116
 z127:=Tryz.sizeOf116
 v127:=Tryz.zeroValue116
 t143:=Tryz.underlying235
 a143:=Tryz.isAgg235
 z143:=Tryz.sizeOf235
 v143:=Tryz.zeroValue235
 t145:=Tryz.underlying237
 a145:=Tryz.isAgg237
 z145:=Tryz.sizeOf237
 v145:=Tryz.zeroValue237
 t167:=Tryz.underlying203
 a167:=Tryz.isAgg203
 z167:=Tryz.sizeOf203
 v167:=Tryz.zeroValue203
 t168:=Tryz.underlying206
 a168:=Tryz.isAgg206
 z168:=Tryz.sizeOf206
 v168:=Tryz.zeroValue206
 t171:=Tryz.underlying209
 a171:=Tryz.isAgg209
 z171:=Tryz.sizeOf209
 v171:=Tryz.zeroValue209
 t173:=Tryz.underlying212
 a173:=Tryz.isAgg212
 z173:=Tryz.sizeOf212
 v173:=Tryz.zeroValue212
 t175:=Tryz.underlying218
 a175:=Tryz.isAgg218
 z175:=Tryz.sizeOf218
 v175:=Tryz.zeroValue218
 t210:=Tryz.underlying222
 a210:=Tryz.isAgg222
 z210:=Tryz.sizeOf222
 v210:=Tryz.zeroValue222
 t212:=Tryz.underlying225
 a212:=Tryz.isAgg225
 z212:=Tryz.sizeOf225
 v212:=Tryz.zeroValue225
 t213:=Tryz.underlying227
 a213:=Tryz.isAgg227
 z213:=Tryz.sizeOf227
 t232:=Tryz.underlying241
 a232:=Tryz.isAgg241
 z232:=Tryz.sizeOf241
 v232:=Tryz.zeroValue241
 t233:=Tryz.underlying242
 a233:=Tryz.isAgg242
 z233:=Tryz.sizeOf242
 v233:=Tryz.zeroValue242
 g15:=by kernel_rfl
 g16:=by kernel_rfl
 g17:=by kernel_rfl
 g18:=by kernel_rfl
 g19:=by kernel_rfl
 t80:=Tryz.underlying76
 a80:=Tryz.isAgg76
 z80:=Tryz.sizeOf76
 v80:=Tryz.zeroValue76
 i0:=by kernel_rfl
 i2:=by kernel_rfl
 i3:=by kernel_rfl
 i4:=by kernel_rfl
 i5:=by kernel_rfl
 i9:=by kernel_rfl
 i20:=by kernel_rfl
 i21:=by kernel_rfl
 i37:=by kernel_rfl
 i46:=by kernel_rfl
 i51:=by kernel_rfl
 i53:=by kernel_rfl
 i75:=by kernel_rfl
 i76:=by kernel_rfl
 i80:=by kernel_rfl
 i85:=by kernel_rfl
 i127:=by kernel_rfl
 i143:=by kernel_rfl
 i145:=by kernel_rfl
 i167:=by kernel_rfl
 i168:=by kernel_rfl
 i171:=by kernel_rfl
 i173:=by kernel_rfl
 i175:=by kernel_rfl
 i210:=by kernel_rfl
 i212:=by kernel_rfl
 i232:=by kernel_rfl
 i233:=by kernel_rfl
 m15:=by kernel_rfl
 m16:=by kernel_rfl
 m17:=by kernel_rfl
 m18:=by kernel_rfl
 m19:=by kernel_rfl
 c0:=by kernel_rfl
 c2:=by kernel_rfl
 c3:=by kernel_rfl
 c4:=by kernel_rfl
 c5:=by kernel_rfl
 c9:=by kernel_rfl
 c20:=by kernel_rfl
 c21:=by kernel_rfl
 c37:=by kernel_rfl
 c46:=by kernel_rfl
 c51:=by kernel_rfl
 c53:=by kernel_rfl
 c75:=by kernel_rfl
 c76:=by kernel_rfl
 c80:=by kernel_rfl
 c85:=by kernel_rfl
 c127:=by kernel_rfl
 c143:=by kernel_rfl
 c145:=by kernel_rfl
 c167:=by kernel_rfl
 c168:=by kernel_rfl
 c171:=by kernel_rfl
 c173:=by kernel_rfl
 c175:=by kernel_rfl
 c210:=by kernel_rfl
 c212:=by kernel_rfl
 c213:=by kernel_rfl
 c232:=by kernel_rfl
 c233:=by kernel_rfl }
open Go.RowKit in
theorem Tryz.strconv_Atoi_ok (s:ByteArray) (hmax:s.size≤9223372036854775806) (v:Int) (h:Lib.atoiAll s.data.toList = .ok v) (w:World) :
 Calls Tryz.prog 164 #[.string s] w fun e w'=>e = .returned (.tuple #[.int .i64 v,.nilIface])∧(w'=w∨∃ t,w'=Lib.bytesWorld w 5 t):=Any.strconv_Atoi_ok Tryz.laysC172 s hmax v h w
open Go.RowKit in
open Go.RowKit in
theorem Tryz.strconv_Atoi_range (s:ByteArray) (hlim:s.size≤281474976710656) (h:Lib.atoiAll s.data.toList = .range) (ev:Value) (w:World) (hv:w.cell? ⟨4,0,none⟩=some ev) (hev:ev = .nilIface∨∃ te pe,ev = .iface te pe) :
 Calls Tryz.prog 164 #[.string s] w fun e w'=>∃ N,e = .returned (.tuple #[.int .i64 (Lib.atoiSat s.data.toList),.iface 206 (.pointer (some ⟨N,0,none⟩))])∧w.heap.size≤N∧w'.heap[N]? = some (.cells #[.string ⟨#[65,116,111,105]⟩,.string s,ev] 222 (0,0))∧Below w.heap.size w w':=Any.strconv_Atoi_range Tryz.laysC172 s hlim h ev w hv hev
def Tryz.lays99_ren:Go.Shelf.Ren:=⟨fun | 99=>194 | 206=>219 | n=>n,fun | 9=>9 | 4=>4 | 3=>3 | n=>n,fun | n=>n⟩
theorem Tryz.lays99:Go.Proofs.Lays.n99 Tryz.prog Tryz.lays99_ren:={
 mixed:=by kernel_rfl
 f99:=Tryz.func194.trans (congrArg some (by kernel_rfl))
 f206:=Tryz.func219.trans (congrArg some (by kernel_rfl))
 t3:=Tryz.underlying3
 a3:=Tryz.isAgg3
 z3:=Tryz.sizeOf3
 v3:=Tryz.zeroValue3
 t4:=Tryz.underlying4
 a4:=Tryz.isAgg4
 z4:=Tryz.sizeOf4
 v4:=Tryz.zeroValue4
 t9:=Tryz.underlying9
 a9:=Tryz.isAgg9
 z9:=Tryz.sizeOf9
 v9:=Tryz.zeroValue9 }
open Go.RowKit Go.Lib in
theorem Tryz.strings_HasPrefix (s p:ByteArray) (w:World) :
 Calls Tryz.prog 194 #[.string s,.string p] w fun e w'=>e = .returned (.bool (Lib.hasPrefix s.data.toList p.data.toList))∧w'=w:=Any.strings_HasPrefix Tryz.lays99 s p w
def Tryz.lays155_ren:Go.Shelf.Ren:=⟨fun | 155=>147 | 154=>173 | 138=>190 | 165=>191 | 143=>192 | 166=>60 | 197=>193 | 169=>34 | 195=>214 | 218=>215 | 240=>99 | 241=>216 | 219=>217 | 260=>218 | 276=>146 | 277=>230 | 217=>231 | 225=>232 | 224=>233 | 267=>234 | 266=>239 | 314=>240 | n=>n,fun | 9=>9 | 3=>3 | 4=>4 | 72=>67 | 0=>0 | 76=>110 | 105=>196 | 21=>21 | 5=>5 | 70=>65 | 20=>20 | 37=>22 | 75=>109 | 127=>116 | 164=>173 | 46=>220 | 119=>230 | 139=>233 | 138=>232 | 146=>239 | 51=>226 | 80=>76 | n=>n,fun | 1=>6 | 3=>7 | 4=>8 | n=>n⟩
theorem Tryz.lays155:Go.Proofs.Lays.n155 Tryz.prog Tryz.lays155_ren:={
 mixed:=by kernel_rfl
 f138:=Tryz.func190.trans (congrArg some (by kernel_rfl))
 f143:=Tryz.func192.trans (congrArg some (by kernel_rfl))
 f154:=Tryz.func173.trans (congrArg some (by kernel_rfl))
 f155:=Tryz.func147.trans (congrArg some (by kernel_rfl))
 f165:=Tryz.func191.trans (congrArg some (by kernel_rfl))
 f166:=Tryz.func60.trans (congrArg some (by kernel_rfl))
 f169:=Tryz.func34.trans (congrArg some (by kernel_rfl))
 f195:=Tryz.func214.trans (congrArg some (by kernel_rfl))
 f197:=Tryz.func193.trans (congrArg some (by kernel_rfl))
 f217:=Tryz.func231.trans (congrArg some (by kernel_rfl))
 f218:=Tryz.func215.trans (congrArg some (by kernel_rfl))
 f219:=Tryz.func217.trans (congrArg some (by kernel_rfl))
 f224:=Tryz.func233.trans (congrArg some (by kernel_rfl))
 f225:=Tryz.func232.trans (congrArg some (by kernel_rfl))
 f240:=Tryz.func99.trans (congrArg some (by kernel_rfl))
 f241:=Tryz.func216.trans (congrArg some (by kernel_rfl))
 f260:=Tryz.func218.trans (congrArg some (by kernel_rfl))
 f266:=Tryz.func239.trans (congrArg some (by kernel_rfl))
 f267:=Tryz.func234.trans (congrArg some (by kernel_rfl))
 f276:=Tryz.func146.trans (congrArg some (by kernel_rfl))
 f277:=Tryz.func230.trans (congrArg some (by kernel_rfl))
 f314:=Tryz.func240.trans (congrArg some (by kernel_rfl))
 t0:=Tryz.underlying0
 a0:=Tryz.isAgg0
 z0:=Tryz.sizeOf0
 v0:=Tryz.zeroValue0
 t3:=Tryz.underlying3
 a3:=Tryz.isAgg3
 z3:=Tryz.sizeOf3
 v3:=Tryz.zeroValue3
 t4:=Tryz.underlying4
 a4:=Tryz.isAgg4
 z4:=Tryz.sizeOf4
 v4:=Tryz.zeroValue4
 t5:=Tryz.underlying5
 a5:=Tryz.isAgg5
 z5:=Tryz.sizeOf5
 v5:=Tryz.zeroValue5
 t9:=Tryz.underlying9
 a9:=Tryz.isAgg9
 z9:=Tryz.sizeOf9
 v9:=Tryz.zeroValue9
 t20:=Tryz.underlying20
 a20:=Tryz.isAgg20
 z20:=Tryz.sizeOf20
 v20:=Tryz.zeroValue20
 t21:=Tryz.underlying21
 a21:=Tryz.isAgg21
 z21:=Tryz.sizeOf21
 v21:=Tryz.zeroValue21
 t37:=Tryz.underlying22
 a37:=Tryz.isAgg22
 z37:=Tryz.sizeOf22
 v37:=Tryz.zeroValue22
 t46:=Tryz.underlying220
 a46:=Tryz.isAgg220
 z46:=Tryz.sizeOf220
 v46:=Tryz.zeroValue220
 t51:=Tryz.underlying226
 a51:=Tryz.isAgg226
 z51:=Tryz.sizeOf226
 v51:=Tryz.zeroValue226
 t70:=Tryz.underlying65
 a70:=Tryz.isAgg65
 z70:=Tryz.sizeOf65
 v70:=Tryz.zeroValue65
 t72:=Tryz.underlying67
 a72:=Tryz.isAgg67
 z72:=Tryz.sizeOf67
 v72:=Tryz.zeroValue67
 t75:=Tryz.underlying109
 a75:=Tryz.isAgg109
 z75:=Tryz.sizeOf109
 v75:=Tryz.zeroValue109
 t76:=Tryz.underlying110
 a76:=Tryz.isAgg110
 z76:=Tryz.sizeOf110
 v76:=Tryz.zeroValue110
 t105:=Tryz.underlying196
 a105:=Tryz.isAgg196
 z105:=Tryz.sizeOf196
 v105:=Tryz.zeroValue196
 t119:=Tryz.underlying230
 a119:=Tryz.isAgg230
 z119:=Tryz.sizeOf230
 t127:=Tryz.underlying116
 a127:=Tryz.isAgg116
 z127:=Tryz.sizeOf116
 v127:=Tryz.zeroValue116
 t138:=Tryz.underlying232
 a138:=Tryz.isAgg232
 z138:=Tryz.sizeOf232
 v138:=Tryz.zeroValue232
 t139:=Tryz.underlying233
 a139:=Tryz.isAgg233
 z139:=Tryz.sizeOf233
 v139:=Tryz.zeroValue233
 t146:=Tryz.underlying239
 a146:=Tryz.isAgg239
 z146:=Tryz.sizeOf239
 v146:=Tryz.zeroValue239
 t164:=Tryz.underlying173
 a164:=Tryz.isAgg173
 z164:=Tryz.sizeOf173
 v164:=Tryz.zeroValue173
 g1:=by kernel_rfl
 g3:=by kernel_rfl
 g4:=by kernel_rfl }
theorem Tryz.Builder_Extra_155:Builder.Extra Tryz.prog Tryz.lays155_ren:={
 sizeBuilder:=by kernel_rfl
 liesBuilder:=by kernel_rfl
 t5:=Tryz.underlying5
 a5:=Tryz.isAgg5
 z5:=Tryz.sizeOf5
 v5:=Tryz.zeroValue5
 infoByte:=by kernel_rfl
 cellsByte:=by kernel_rfl
 sizeByte:=by kernel_rfl
 neB5:=by decide }
open Go.RowKit Go.Lib in
theorem Tryz.strings_ReplaceAll (s old new:ByteArray) (m:Int) (w:World) (hs:s.size<4294967281) (hm:w.cell? ⟨6,0,none⟩=some (.int .i64 m)) (h1:1≤old.size) (hlen:s.size+Lib.countB s old*new.size≤140737488355328) :
 Calls Tryz.prog 147 #[.string s,.string old,.string new] w fun e w' =>
  e = .returned (.string ⟨(Lib.replaceAll s.data.toList old.data.toList new.data.toList).toArray⟩)∧Below w.heap.size w w':=Any.strings_ReplaceAll Tryz.lays155 Tryz.Builder_Extra_155 s old new m w hs hm h1 hlen
end Go.Proofs
