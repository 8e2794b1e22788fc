/-
 Texts of layers, put together.
-/
import Derived.Test.YtecpbligblnonaaGreatDoorML10
namespace Go.Proofs.YtecpbligblnonaaGreatDoor
open Go.RowKit
def stepL (x:Int):Int:=if x=40 then 1 else if x=41 then -1 else 0
def bal:List Int→Int
 | []=>0
 | x :: l=>stepL x+bal l
theorem bal_cons (x:Int) (l:List Int):bal (x :: l)=stepL x+bal l:=rfl
theorem bal_app:∀ a b:List Int,bal (a++b)=bal a+bal b
 | [],b=>by rw [List.nil_append];show bal b=0+bal b;omega
 | x :: a,b=>by rw [List.cons_append,bal_cons,bal_cons,bal_app a b];omega
def Bal (l:List Int):Prop:=bal l=0∧∀ k,bal (l.drop k)≤0
theorem Bal.nil:Bal []:=⟨rfl,fun k=>by rw [List.drop_nil];exact Int.le_refl 0⟩
def FreeL (l:List Int):Prop:=∀ x∈l,x≠40∧x≠41
theorem bal_free:∀ l:List Int,FreeL l→bal l=0
 | [],_=>rfl
 | x :: l,h=>by
   have h1:=h x (by simp)
   rw [bal_cons,bal_free l (fun y hy=>h y (by simp [hy]))]
   unfold stepL;rw [if_neg h1.1,if_neg h1.2];rfl
theorem Bal.free {l:List Int} (h:FreeL l):Bal l:=⟨bal_free l h,fun k=>by rw [bal_free _ (fun x hx=>h x (List.mem_of_mem_drop hx))];exact Int.le_refl 0⟩
theorem Bal.app {a b:List Int} (ha:Bal a) (hb:Bal b):Bal (a++b):=by
 refine ⟨by rw [bal_app,ha.1,hb.1];rfl,fun k => ?_⟩
 rw [List.drop_append,bal_app]
 have h1:=ha.2 k
 have h2:=hb.2 (k - a.length)
 omega
theorem Bal.inB {t:List Int} (h:Bal t):Bal (40 :: (t++[41])):=by
 have h41:bal [41] = -1:=by decide
 have h0:bal (t++[41]) = -1:=by rw [bal_app,h.1,h41];rfl
 refine ⟨by rw [bal_cons,h0];decide,fun k => ?_⟩
 cases k with
 | zero=>rw [List.drop_zero,bal_cons,h0];decide
 | succ k =>
   rw [List.drop_succ_cons,List.drop_append,bal_app]
   have h1:=h.2 k
   have h2:bal ([41].drop (k - t.length))≤0:=by
    cases k - t.length with
    | zero=>decide
    | succ m=>rw [List.drop_succ_cons,List.drop_nil];exact Int.le_refl 0
   omega
theorem FreeL.app {a b:List Int} (ha:FreeL a) (hb:FreeL b):FreeL (a++b):=fun x hx=>by
 rcases List.mem_append.1 hx with hx | hx
 · exact ha x hx
 · exact hb x hx
theorem FreeL.digs (u:Nat):FreeL (digL u):=fun x hx=>by have:=num_bd (isNum_digL u x hx);omega
theorem FreeL.dbl:∀ l:List Int,FreeL l→FreeL (dblL l)
 | [],_=>fun x hx=>by cases hx
 | x :: l,h=>by
   have h1:=h x (by simp)
   have ih:=FreeL.dbl l (fun y hy=>h y (by simp [hy]))
   show FreeL ((if x=34 then [34,34] else [x])++dblL l)
   refine FreeL.app ?_ ih
   intro y hy
   split at hy
   · simp at hy;omega
   · simp at hy;subst hy;exact h1
theorem FreeL.name {l:List Int} (h:nameL l=true):FreeL l:=by
 intro x hx
 have hh:=h
 unfold nameL at hh
 rw [Bool.and_eq_true,decide_eq_true_iff] at hh
 obtain ⟨j,hj,rfl⟩:=List.mem_iff_getElem.1 hx
 have h1:=hh.1 j hj
 rw [List.getD_eq_getElem?_getD,List.getElem?_eq_getElem hj] at h1
 have h1:inName j l[j]=true:=h1
 unfold inName at h1
 have:isLet l[j]=true∨isNum l[j]=true:=by
  rcases Bool.or_eq_true_iff.1 h1 with h2 | h2
  · exact .inl h2
  · exact .inr (Bool.and_eq_true_iff.1 h2).2
 rcases this with h2 | h2
 · unfold isLet at h2;rw [decide_eq_true_iff] at h2;omega
 · have:=num_bd h2;omega
theorem FreeL.col (c:Int):FreeL (colL c):=by
 unfold colL
 split
 · intro x hx;cases hx
 split
 · intro x hx;simp at hx;omega
 · intro x hx
   simp at hx
   omega
theorem FreeL.text (sh:List Int) (c r:Int) (ac ar:Bool):FreeL (textL sh c r ac ar):=by
 unfold textL
 split
 · rename_i h
   have h33:FreeL [33]:=by intro x hx;simp at hx;omega
   have h36:FreeL [36]:=by intro x hx;simp at hx;omega
   have h0:FreeL []:=by intro x hx;cases hx
   unfold mayL at h
   rw [Bool.and_eq_true,Bool.or_eq_true,decide_eq_true_iff] at h
   refine FreeL.app (FreeL.app (FreeL.app (FreeL.app ?_ ?_) (FreeL.col c)) ?_) (FreeL.digs _)
   · split
     · exact h0
     · rename_i hne
       rcases h.1 with h1 | h1
       · exact absurd h1 hne
       · exact FreeL.app (FreeL.name h1) h33
   · split
     · exact h36
     · exact h0
   · split
     · exact h36
     · exact h0
 · intro x hx;cases hx
theorem FreeL.op (o:Nat):FreeL (opL o):=by
 by_cases h:o<11
 · have key:∀ o:Nat,o<11→∀ x∈opL o,x≠40∧x≠41:=by decide +kernel
   exact key o h
 · unfold opL
   rw [List.getD_eq_getElem?_getD,List.getElem?_eq_none (by simp;omega)]
   intro x hx;cases hx
theorem Bal.join:∀ ls:List (List Int),(∀ t∈ls,Bal t)→Bal (joinA ls)
 | [],_=>Bal.nil
 | [a],h=>h a (by simp)
 | a :: b :: l,h=>by
   have ih:=Bal.join (b :: l) (fun t ht=>h t (by simp [List.mem_cons.1 ht]))
   show Bal (a++([44]++joinA (b :: l)))
   exact (h a (by simp)).app ((Bal.free (by intro x hx;simp at hx;omega)).app ih)
theorem Bal.inL {b:Bool} {t:List Int} (h:Bal t):Bal (Go.Proofs.YtecpbligblnonaaGreatDoor.inL b t):=by
 unfold Go.Proofs.YtecpbligblnonaaGreatDoor.inL
 split
 · exact h.inB
 · exact h
theorem nodeAt_free {l:List Nd} (h:∀ n∈l,FreeT n) (i:Int):FreeT (nodeAt l i):=by
 unfold nodeAt
 rw [List.getD_eq_getElem?_getD]
 cases hn:l[i.toNat]? with
 | none=>exact free_nil
 | some n=>exact h n (List.mem_of_getElem? hn)
theorem shown_bal {l:List Nd} (h:∀ n∈l,FreeT n):∀ (f:Nat) (i:Int),Bal (shownL f l i)
 | 0,_=>Bal.nil
 | f + 1,i=>by
   have ih:=shown_bal h f
   have hn:=nodeAt_free h i
   obtain ⟨n,e⟩:∃ n,nodeAt l i=n:=⟨_,rfl⟩
   rw [e] at hn
   rw [shown_succ f l i n e]
   split
   · exact Bal.free (FreeL.digs _)
   split
   · exact Bal.free (FreeL.app (a:=[34]) (by intro x hx;simp at hx;omega) (FreeL.app (FreeL.dbl _ hn) (by intro x hx;simp at hx;omega)))
   split
   · split
     · exact Bal.free (by intro x hx;simp at hx;omega)
     · exact Bal.free (by intro x hx;simp at hx;omega)
   split
   · exact Bal.free (by intro x hx;simp at hx;omega)
   split
   · exact Bal.free (FreeL.text _ _ _ _ _)
   split
   · exact Bal.free (FreeL.app (FreeL.text _ _ _ _ _) (FreeL.app (a:=[58]) (by intro x hx;simp at hx;omega) (FreeL.text _ _ _ _ _)))
   split
   · exact (Bal.free hn).app (Bal.inB (Bal.join _ (fun t ht=>by obtain ⟨j,_,rfl⟩:=List.mem_map.1 ht;exact ih j)))
   split
   · exact (Bal.free (l:=[45]) (by intro x hx;simp at hx;omega)).app (ih _).inL
   · exact (ih _).inL.app ((Bal.free (FreeL.op _)).app (ih _).inL)
theorem print_bal {l:List Nd} (h:∀ n∈l,FreeT n):Bal (printL l):=by
 unfold printL
 split
 · exact shown_bal h _ _
 · exact Bal.nil
theorem drop_step {l:List Int} {k:Nat} (hk:k<l.length):bal (l.drop k)=stepL (l.getD k 0)+bal (l.drop (k+1)):=by
 rw [List.drop_eq_getElem_cons hk,bal_cons,List.getD_eq_getElem?_getD,List.getElem?_eq_getElem hk];rfl
theorem least_no {t u:ByteArray} {ns:List Nd} (ht:strOfNums (printL ns)=t) (hu:PIs u (.ok ns)) (hs:u.size+2=t.size):False:=by
 have h1:=(PIs_told u ns hu).2.2.1
 have h2:=congrArg ByteArray.size ht
 rw [strOfNums_size] at h2
 omega
theorem cut_size (t:ByteArray) (i k:Nat) (hi:i<k) (hk:k<t.size):(t.extract 0 i++t.extract (i+1) k++t.extract (k+1) t.size).size+2=t.size:=by
 rw [ByteArray.size_append,ByteArray.size_append,ByteArray.size_extract,ByteArray.size_extract,ByteArray.size_extract]
 omega
def DeepI (pl:List Int) (i p:Nat) (d:Int):Prop:=bal (pl.drop i)=d+bal (pl.drop p)∧(p=i∧d=0∨i<p∧0<d)∧d+i≤p
theorem DeepI.nil (pl:List Int) (i:Nat):DeepI pl i i 0:=⟨by omega,.inl ⟨rfl,rfl⟩,by omega⟩
theorem DeepI.stop {pl:List Int} (hb:Bal pl) {i p:Nat} {d:Int} (h:DeepI pl i p d) (hi:i<pl.length) (hp:pl.length≤p):False:=by
 obtain ⟨h1,h2, -⟩:=h
 rw [List.drop_eq_nil_iff.2 hp] at h1
 have:=hb.2 i
 have h0:bal ([]:List Int)=0:=rfl
 rcases h2 with ⟨rfl,_⟩ | ⟨_,h3⟩
 · omega
 · omega
theorem DeepI.next {pl:List Int} {i p:Nat} {d:Int} (h:DeepI pl i p d) (hp:p<pl.length) (c:Int) (hc:pl.getD p 0=c) (ha:pl.getD i 0=40) :
 (c=40→DeepI pl i (p+1) (d+1)∧0≤d)∧(c=41→0<d∧i<p∧(d - 1≠0→DeepI pl i (p+1) (d - 1)))∧(c≠40→c≠41→DeepI pl i (p+1) d∧0<d):=by
 obtain ⟨h1,h2,h3⟩:=h
 have hs:=drop_step hp
 rw [hc] at hs
 refine ⟨fun e => ?_,fun e => ?_,fun e1 e2 => ?_⟩
 · subst e
   have h4:stepL 40=1:=by decide
   rw [h4] at hs
   refine ⟨⟨by omega,.inr ⟨by omega,by omega⟩,by omega⟩,by omega⟩
 · subst e
   have h4:stepL 41 = -1:=by decide
   rw [h4] at hs
   rcases h2 with ⟨rfl,_⟩ | ⟨h5,h6⟩
   · rw [ha] at hc;omega
   · exact ⟨h6,h5,fun hne=>⟨by omega,.inr ⟨by omega,by omega⟩,by omega⟩⟩
 · have h4:stepL c=0:=by unfold stepL;rw [if_neg e1,if_neg e2]
   rw [h4] at hs
   rcases h2 with ⟨rfl,_⟩ | ⟨h5,h6⟩
   · rw [ha] at hc;omega
   · exact ⟨⟨by omega,.inr ⟨by omega,h6⟩,by omega⟩,h6⟩
set_option maxRecDepth 100000 in
set_option maxHeartbeats 8000000 in
theorem showLeast_any (w : World) (A:Option Addr) (n cap:Nat) (xs:List Int) (m:Int) (hm0:0≤m) (hm1:m≤255) (hs:S8 w w.heap.size A n cap xs) (hn:n≤9223372036854775807) (hx:Sx w) :
 Calls Tryz.prog 4 #[.slice A n cap,.int .u8 m] w fun e w'=>e = .returned (.bool true)∧Below w.heap.size w w':=by
 by_cases h12:(12:Int)<(n:Int)
 · have HAW:=Lib.hid (awake6_any w hx)
   clear hx hs hn
   go_enter Tryz.func4,Tryz.ntmps4
   go_wp2_with (go_at_call 13;((with_reducible refine HAW.out.mono ?_);rintro e w2 ⟨rfl,h1⟩;have HB2:=Lib.hid h1;clear h1))
   go_ret
   exact ⟨rfl,HB2.out⟩
 have HA:=Lib.hid (made_any w A n cap xs hs hn)
 have HX:=Lib.hid hx
 have HPR:=Lib.hid (fun (w1:World) (hb:Below w.heap.size w w1) (A1:Option Addr) (c1:Nat) (l:List (Nd × Value)) (hs:SN w1 w1.heap.size (.slice A1 l.length c1) l) (hN:MadeN (l.map (·.1)))=>(show Calls Tryz.prog 9 #[.slice A1 l.length c1] w1 fun e w'=>(∃ t,e = .returned (.string t)∧Hid (strOfNums (printL (l.map (·.1)))=t))∧Below w1.heap.size w1 w' from by
  have h80:=hN.few
  rw [List.length_map] at h80
  exact ((hx.below hb).print _ l hs ⟨by omega,fun p hp=>hN.szs p.1 (List.mem_map_of_mem hp)⟩ (fun p hp=>hN.num p.1 (List.mem_map_of_mem hp)) (Nat.le_trans hN.len (by omega))).mono fun e w' h=>⟨⟨_,h.1,Lib.hid rfl⟩,h.2⟩))
 clear hs hx
 go_enter Tryz.func4,Tryz.ntmps4
 go_upto_region 4 with (first
  | (go_at_call 8;((with_reducible refine HA.out.mono ?_);rintro e w1 h;obtain ⟨hb,A1,c1,l,rfl,hsn,hN⟩:=h.made;have HB1:=Lib.hid hb;have HS1:=Lib.hid hsn;have HN:=Lib.hid hN;clear hb hsn hN h))
  | (go_at_call 9;((with_reducible refine (HPR.out w1 HB1.out A1 c1 l HS1.out HN.out).mono ?_);rintro e w2 ⟨⟨t,rfl,HT⟩,h1⟩;have H2:=Lib.hid (HB1.out.trans (h1.mono HB1.out.size));clear h1)))
 obtain ⟨ns,hns⟩:∃ ns,l.map (·.1)=ns:=⟨_,rfl⟩
 have HN2:=Lib.hid (show MadeN ns from by rw [← hns];exact HN.out)
 have HT2:=Lib.hid (show strOfNums (printL ns)=t from by rw [← hns];exact HT.out)
 clear hns HT HN HS1 HPR HA
 have HAW:=Lib.hid (fun (wr:World) (hr:Below w.heap.size w wr)=>awake6_any wr (HX.out.below hr))
 have hcase:(∃ c,PIs t (.error c)∧c≠0)∨(ns≠[]∧PIs t (.ok ns)):=by
  by_cases h0:ns=[]
  · obtain ⟨c,hpe,hc⟩:=parse_empty
    have ht0:t=⟨#[]⟩:=by rw [← HT2.out,h0];decide
    exact .inl ⟨c,by rw [ht0];exact hpe,hc⟩
  · obtain ⟨_,h | ⟨c,h1,h2,_⟩⟩:=HN2.out.told h0
    · exact .inr ⟨h0,by rw [← HT2.out];exact h⟩
    · exact .inl ⟨c,by rw [← HT2.out];exact h1,h2⟩
 rcases hcase with ⟨c,hp,hc⟩ | ⟨h0,hp⟩
 · have hc0:(c == 0)=false:=beq_eq_false_iff_ne.2 hc
   have HE:=Lib.hid (parse_err t w2 (HX.out.below H2.out).vars (HX.out.below H2.out).ops c hp)
   clear hp hc
   go_wp2_with (first
    | (go_at_call 11;((with_reducible refine HE.out.mono ?_);rintro e w4 ⟨h1,rfl⟩;have H4:=Lib.hid (H2.out.trans (h1.mono H2.out.size));clear h1))
    | (go_at_call 13;((with_reducible refine (HAW.out _ H4.out).mono ?_);rintro e w7 ⟨rfl,h1⟩;have H7:=Lib.hid (H4.out.trans (h1.mono H4.out.size));clear h1))
    | (go_at_call 12;((with_reducible refine (num_is _ _).mono ?_);rintro e wn ⟨rfl,rfl⟩)))
   go_ret
   exact ⟨rfl,H7.out⟩
 have htree:=HN2.out.tree h0
 have hbytes:=printL_bytes htree HN2.out.num
 have hsb:sb t=printL ns:=by rw [← HT2.out,sb_str _ hbytes]
 have HSB:=Lib.hid hsb
 have HPL0:(printL ns).length=t.size:=by rw [← hsb];exact length_sb t
 have HBAL:=Lib.hid (print_bal HN2.out.free)
 obtain ⟨_,_,_,h300,_⟩:=PIs_told t ns hp
 have HE:=Lib.hid (parse_sn t w2 (HX.out.below H2.out) ns hp)
 have hk80:=HN2.out.few
 obtain ⟨k,hk⟩:∃ k,ns.length=k:=⟨_,rfl⟩
 rw [hk] at HE hk80
 have HK:=Lib.hid hk
 obtain ⟨L,hL⟩:∃ L,t.size=L:=⟨_,rfl⟩
 have HL:=Lib.hid hL
 have HPL:=Lib.hid (HPL0.trans hL)
 clear HPL0
 have hL300:L≤300:=by omega
 clear hp h0 htree hbytes hsb hk h300
 go_upto_region 9 with (first
  | (go_at_call 11;((with_reducible refine HE.out.mono ?_);rintro e w4 ⟨h1,g2,cap2,l2,rfl,hm2,hs2⟩;have H4:=Lib.hid (H2.out.trans (h1.mono H2.out.size));have HM2:=Lib.hid hm2;have HS2:=Lib.hid hs2;clear h1 hm2 hs2))
  | (go_at_call 12;((with_reducible refine (num_is _ _).mono ?_);rintro e wn ⟨rfl,rfl⟩)))
 obtain ⟨r,hr⟩:∃ r:Nat,m % 6=(r:Int):=⟨(m % 6).toNat,by omega⟩
 have hr2:m.tmod 6=(r:Int):=by rw [Int.tmod_eq_emod_of_nonneg hm0];exact hr
 have hr6:r<6:=by omega
 go_loopw [8,9] (fun nv iv wr=>∃ (q i:Nat),q≤i∧i≤L∧nv = .int .i64 (q:Int)∧iv = .int .i64 (i:Int)∧w4=wr)
  (fun _ iv _=>L - (intOf iv).toNat)
 case atStart=>exact ⟨0,0,Nat.le_refl _,Nat.zero_le _,rfl,rfl,rfl⟩
 case round =>
  obtain ⟨q,i,hqi,hiL,rfl,rfl,rfl⟩:=hrel
  by_cases hlt:i<L
  · have hlt2 : (i : Int)<(L:Int):=by omega
    have hi0:(0:Int)≤(i:Int):=by omega
    have hit:i<t.size:=by rw [HL.out];exact hlt
    obtain ⟨a,ha⟩:∃ a:Int,(t[i].toNat:Int)=a:=⟨_,rfl⟩
    have ha1:0≤a∧a≤255:=by have:=t[i].toNat_lt;omega
    have HGA:=Lib.hid (show (printL ns).getD i 0=a from by rw [← HSB.out,sb_getD t i hit,ha])
    by_cases h34:a=34
    · subst h34
      go_wp2_with (first
      | (go_at_call 13;((with_reducible refine (HAW.out _ H4.out).mono ?_);rintro e w7 ⟨rfl,h1⟩;have H7:=Lib.hid (H4.out.trans (h1.mono H4.out.size));clear h1)))
      go_ret
      exact ⟨rfl,H7.out⟩
    have b34:(a == 34)=false:=beq_eq_false_iff_ne.2 h34
    by_cases h40:a=40
    · subst h40
      clear h34 b34
      have hside:(∃ (h:i - 1<t.size),0<i∧(t[i - 1].toNat:Int)=77)∨((i=0)∨∃ (h:i - 1<t.size) (b:Int),0<i∧(t[i - 1].toNat:Int)=b∧0≤b∧b≤255∧¬ b=77):=by
       rcases Nat.eq_zero_or_pos i with h | h
       · exact .inr (.inl h)
       · have hz:i - 1<t.size:=by omega
         by_cases h77:(t[i - 1].toNat:Int)=77
         · exact .inl ⟨hz,h,h77⟩
         · exact .inr (.inr ⟨hz,_,h,rfl,by omega,by have:=(t[i - 1]).toNat_lt;omega,h77⟩)
      have hidx:((i:Int) - 1).toNat=i - 1:=by omega
      rcases hside with ⟨hz,hp,hb⟩ | hside
      · have hpi:(0:Int)<(i:Int):=by omega
        have hz1:(0:Int)≤(i:Int) - 1:=by omega
        have hz2:(i:Int) - 1<(L:Int):=by omega
        go_wp2_with fail
        go_roundw
        case rel=>exact ⟨q,i+1,by omega,by omega,by go_num,by go_num,by trivial⟩
        case measure=>simp [intOf];omega
      · have key : ∀ (Z : Prop),Z→Z:=fun _ h=>h
        clear key
        rcases hside with h00 | ⟨hz,b,hp,hb,hb0,hb1,hb77⟩
        · have hpi : ¬ (0:Int)<(i:Int):=by omega
          clear h00 hidx
          go_upto_region 14 with (fail)
          by_cases hqr:q=r
          · subst hqr
            go_upto_region 17 with (fail)
            go_loopw [10,11] (fun dv kv wr=>∃ (d:Int) (p:Nat),dv = .int .i64 d∧kv = .int .i64 (p:Int)∧p≤L∧0≤d∧d≤300∧Hid (DeepI (printL ns) i p d)∧w4=wr)
             (fun _ kv _=>L - (intOf kv).toNat)
            case atStart=>exact ⟨0,i,rfl,rfl,by omega,by omega,by omega,Lib.hid (DeepI.nil _ _),rfl⟩
            case round =>
             obtain ⟨d,p,rfl,rfl,hpL,hd0,hd3,HDI,rfl⟩:=hrel
             by_cases hpl:p<L
             · have hpl2 : (p:Int)<(L:Int):=by omega
               have hp0:(0:Int)≤(p:Int):=by omega
               have hpt:p<t.size:=by rw [HL.out];exact hpl
               obtain ⟨c,hc⟩:∃ c:Int,(t[p].toNat:Int)=c:=⟨_,rfl⟩
               have hc1:0≤c∧c≤255:=by have:=t[p].toNat_lt;omega
               obtain ⟨n1,n2,n3⟩:=HDI.out.next (by rw [HPL.out];exact hpl) c (by rw [← HSB.out,sb_getD t p hpt,hc]) HGA.out
               have hdp:=HDI.out.2.2
               by_cases h40:c=40
               · obtain ⟨k1,k2⟩:=n1 h40
                 have HNX:=Lib.hid k1
                 have hne:¬ d+1=0:=by omega
                 have bne:(d+1 == 0)=false:=beq_eq_false_iff_ne.2 hne
                 clear n1 n2 n3 k1
                 subst h40
                 go_wp2_with fail
                 go_roundw
                 case rel=>exact ⟨d+1,p+1,by go_num,by go_num,by omega,by omega,by omega,Lib.hid HNX.out,by trivial⟩
                 case measure=>simp [intOf];omega
               · have b40:(c == 40)=false:=beq_eq_false_iff_ne.2 h40
                 by_cases h41:c=41
                 · obtain ⟨k1,k2,k3⟩:=n2 h41
                   by_cases hz0:d - 1=0
                   · obtain rfl:d=1:=by omega
                     clear n1 n2 n3 k3 hz0
                     subst h41
                     clear HDI hdp
                     have hki:¬ (L:Int)≤(p:Int):=by omega
                     go_upto_region 26 with (fail)
                     have hcs:=cut_size t i p k2 hpt
                     rw [HL.out] at hcs
                     have hz1:(t.extract 0 i).size≤300:=by rw [ByteArray.size_extract];omega
                     have hz2:(t.extract (i+1) p).size≤300:=by rw [ByteArray.size_extract];omega
                     have hz3:(t.extract (p+1) L).size≤300:=by rw [ByteArray.size_extract];omega
                     obtain ⟨s1,hs1⟩:∃ s1,t.extract 0 i=s1:=⟨_,rfl⟩
                     obtain ⟨i1,hi1⟩:∃ i1,i+1=i1:=⟨_,rfl⟩
                     obtain ⟨p1,hp1⟩:∃ p1,p+1=p1:=⟨_,rfl⟩
                     have hwi:IntKind.i64.wrap ((i:Int)+1)=(i1:Int):=by rw [IntKind.wrap_i64];omega
                     have hwp:IntKind.i64.wrap ((p:Int)+1)=(p1:Int):=by rw [IntKind.wrap_i64];omega
                     rw [hi1] at hz2 hcs;rw [hp1] at hz3 hcs
                     obtain ⟨s2,hs2⟩:∃ s2,t.extract i1 p=s2:=⟨_,rfl⟩
                     obtain ⟨s3,hs3⟩:∃ s3,t.extract p1 L=s3:=⟨_,rfl⟩
                     rw [hs1] at hz1 hcs;rw [hs2] at hz2 hcs;rw [hs3] at hz3 hcs
                     obtain ⟨v,hv⟩:∃ v,s1++s2=v:=⟨_,rfl⟩
                     rw [hv] at hcs
                     have hvz:v.size≤600:=by rw [← hv,ByteArray.size_append];omega
                     obtain ⟨u,hu⟩:∃ u,v++s3=u:=⟨_,rfl⟩
                     rw [hu] at hcs
                     have hj1:¬ 9223372036854775807<s1.size+s2.size:=by omega
                     have hj2:¬ 9223372036854775807<v.size+s3.size:=by omega
                     have hiL2:(i:Int)≤(L:Int):=by omega
                     have hip1:(i1:Int)≤(p:Int):=by omega
                     have hip0:(0:Int)≤(i1:Int):=by omega
                     have hpL2:(p:Int)≤(L:Int):=by omega
                     have hpL3:(p1:Int)≤(L:Int):=by omega
                     have hpL0:(0:Int)≤(p1:Int):=by omega
                     clear hi1 hp1
                     have HBD:=Lib.hid (Below.drew (Below.refl w4.heap.size w4))
                     have HX4:=Lib.hid (fun (wq:World) (hb:Below w4.heap.size w4 wq)=>HX.out.below (H4.out.trans (hb.mono H4.out.size)))
                     obtain ⟨res,hpu⟩:=PIs.all u
                     cases res with
                     | error e3 =>
                       have he3:=PIs_err u e3 hpu
                       have b3:(e3 == 0)=false:=beq_eq_false_iff_ne.2 he3
                       have HE3:=Lib.hid (fun (wq:World) (hb:Below w4.heap.size w4 wq)=>parse_err u wq (HX4.out wq hb).vars (HX4.out wq hb).ops e3 hpu)
                       have hi3:¬ e3=0:=he3
                       clear hpu he3 hcs hvz hz1 hz2 hz3
                       go_region_held3 (fun _=>True) (trivial) (first
                        | (go_at_call 11;((with_reducible refine (HE3.out _ HBD.out).mono ?_);rintro e w5 ⟨h1,rfl⟩;have H5:=Lib.hid (H4.out.trans ((HBD.out.trans (h1.mono HBD.out.size)).mono H4.out.size));clear h1)))
                       all_goals go_wp2_with (first
                        | (go_at_call 12;((with_reducible refine (num_is _ _).mono ?_);rintro e wn ⟨rfl,rfl⟩))
                        | (go_at_call 13;((with_reducible refine (HAW.out _ H5.out).mono ?_);rintro e w7 ⟨rfl,h1⟩;have H7:=Lib.hid (H5.out.trans (h1.mono H5.out.size));clear h1)))
                       all_goals go_ret
                       all_goals exact ⟨rfl,H7.out⟩
                     | ok ns3 =>
                       have hne3:ns≠ns3:=fun e=>least_no HT2.out (e ▸ hpu) (by rw [HL.out];exact hcs)
                       have hl3:=(PIs_told u ns3 hpu).1.1
                       have HE3:=Lib.hid (fun (wq:World) (hb:Below w4.heap.size w4 wq)=>parse_sn u wq (HX4.out wq hb) ns3 hpu)
                       have HSM:=Lib.hid (fun (w5:World) (v3:Value) (l3:List (Nd × Value)) (hm3:l3.map Prod.fst=ns3) (hs3:SN w5 w5.heap.size v3 l3) (hr:Below w4.heap.size w4 w5)=>(show Calls Tryz.prog 14 #[.slice (some ⟨g2,0,none⟩) k cap2,v3] w5 fun e w'=>e = .returned (.bool false)∧Below w5.heap.size w5 w' from by
                        have hll3:l3.length=ns3.length:=by rw [← hm3,List.length_map]
                        have hll2:l2.length=k:=by rw [← HK.out, ← HM2.out,List.length_map]
                        have hs2:=HS2.out.lift hr hr.size
                        refine (refSame_any w5 _ v3 l2 l3 hs2 hs3 (by omega) (by omega)).mono fun e w' h=>⟨?_,h.2⟩
                        rcases h.1.is with ⟨h,_⟩ | ⟨_,h⟩
                        · exact absurd ((HM2.out.symm.trans h).trans hm3) hne3
                        · exact h))
                       obtain ⟨k3,hk3⟩:∃ k3,ns3.length=k3:=⟨_,rfl⟩
                       rw [hk3] at HE3
                       clear hpu hcs hvz hz1 hz2 hz3 hne3 hl3 hk3
                       go_region_held3 (fun _=>True) (trivial) (first
                        | (go_at_call 11;((with_reducible refine (HE3.out _ HBD.out).mono ?_);rintro e w5 ⟨h1,g3,cap3,l3,rfl,hm3,hs3⟩;have H54:=Lib.hid (HBD.out.trans (h1.mono HBD.out.size));have H5:=Lib.hid (H4.out.trans (H54.out.mono H4.out.size));have HM3:=Lib.hid hm3;have HS3:=Lib.hid hs3;clear h1 hm3 hs3)))
                       all_goals go_wp2_with (first
                        | (go_at_call 12;((with_reducible refine (num_is _ _).mono ?_);rintro e wn ⟨rfl,rfl⟩))
                        | (go_at_call 14;((with_reducible refine (HSM.out _ _ l3 HM3.out HS3.out H54.out).mono ?_);rintro e w6 ⟨rfl,h1⟩;have H6:=Lib.hid (H5.out.trans (h1.mono H5.out.size));clear h1))
                        | (go_at_call 13;((with_reducible refine (HAW.out _ H6.out).mono ?_);rintro e w7 ⟨rfl,h1⟩;have H7:=Lib.hid (H6.out.trans (h1.mono H6.out.size));clear h1)))
                       all_goals go_ret
                       all_goals exact ⟨rfl,H7.out⟩
                   · have HNX:=Lib.hid (k3 hz0)
                     have bne:(d - 1 == 0)=false:=beq_eq_false_iff_ne.2 hz0
                     clear n1 n2 n3 k3
                     subst h41
                     go_wp2_with fail
                     go_roundw
                     case rel=>exact ⟨d - 1,p+1,by go_num,by go_num,by omega,by omega,by omega,Lib.hid HNX.out,by trivial⟩
                     case measure=>simp [intOf];omega
                 · have b41:(c == 41)=false:=beq_eq_false_iff_ne.2 h41
                   obtain ⟨k1,k2⟩:=n3 h40 h41
                   have HNX:=Lib.hid k1
                   have hne:¬ d=0:=by omega
                   have bne:(d == 0)=false:=beq_eq_false_iff_ne.2 hne
                   clear n1 n2 n3 k1
                   go_wp2_with fail
                   go_roundw
                   case rel=>exact ⟨d,p+1,by go_num,by go_num,by omega,by omega,by omega,Lib.hid HNX.out,by trivial⟩
                   case measure=>simp [intOf];omega
             · exact (HDI.out.stop HBAL.out (by rw [HPL.out];exact hlt) (by rw [HPL.out];omega)).elim
          · have hqi:¬ (q:Int)=(r:Int):=by omega
            have bqr:((q:Int) == (r:Int))=false:=beq_eq_false_iff_ne.2 hqi
            go_wp2_with fail
            go_roundw
            case rel=>exact ⟨q+1,i+1,by omega,by omega,by go_num,by go_num,by trivial⟩
            case measure=>simp [intOf];omega
        · have hpi : (0 : Int)<(i:Int):=by omega
          have hz1:(0:Int)≤(i:Int) - 1:=by omega
          have hz2:(i:Int) - 1<(L:Int):=by omega
          have b77:(b == 77)=false:=beq_eq_false_iff_ne.2 hb77
          go_upto_region 14 with (fail)
          clear hidx hpi hz1 hz2 b77 hb77 hb hz hp hb0 hb1
          by_cases hqr:q=r
          · subst hqr
            go_upto_region 17 with (fail)
            go_loopw [10,11] (fun dv kv wr=>∃ (d:Int) (p:Nat),dv = .int .i64 d∧kv = .int .i64 (p:Int)∧p≤L∧0≤d∧d≤300∧Hid (DeepI (printL ns) i p d)∧w4=wr)
             (fun _ kv _=>L - (intOf kv).toNat)
            case atStart=>exact ⟨0,i,rfl,rfl,by omega,by omega,by omega,Lib.hid (DeepI.nil _ _),rfl⟩
            case round =>
             obtain ⟨d,p,rfl,rfl,hpL,hd0,hd3,HDI,rfl⟩:=hrel
             by_cases hpl:p<L
             · have hpl2 : (p:Int)<(L:Int):=by omega
               have hp0:(0:Int)≤(p:Int):=by omega
               have hpt:p<t.size:=by rw [HL.out];exact hpl
               obtain ⟨c,hc⟩:∃ c:Int,(t[p].toNat:Int)=c:=⟨_,rfl⟩
               have hc1:0≤c∧c≤255:=by have:=t[p].toNat_lt;omega
               obtain ⟨n1,n2,n3⟩:=HDI.out.next (by rw [HPL.out];exact hpl) c (by rw [← HSB.out,sb_getD t p hpt,hc]) HGA.out
               have hdp:=HDI.out.2.2
               by_cases h40:c=40
               · obtain ⟨k1,k2⟩:=n1 h40
                 have HNX:=Lib.hid k1
                 have hne:¬ d+1=0:=by omega
                 have bne:(d+1 == 0)=false:=beq_eq_false_iff_ne.2 hne
                 clear n1 n2 n3 k1
                 subst h40
                 go_wp2_with fail
                 go_roundw
                 case rel=>exact ⟨d+1,p+1,by go_num,by go_num,by omega,by omega,by omega,Lib.hid HNX.out,by trivial⟩
                 case measure=>simp [intOf];omega
               · have b40:(c == 40)=false:=beq_eq_false_iff_ne.2 h40
                 by_cases h41:c=41
                 · obtain ⟨k1,k2,k3⟩:=n2 h41
                   by_cases hz0:d - 1=0
                   · obtain rfl:d=1:=by omega
                     clear n1 n2 n3 k3 hz0
                     subst h41
                     clear HDI hdp
                     have hki:¬ (L:Int)≤(p:Int):=by omega
                     go_upto_region 26 with (fail)
                     have hcs:=cut_size t i p k2 hpt
                     rw [HL.out] at hcs
                     have hz1:(t.extract 0 i).size≤300:=by rw [ByteArray.size_extract];omega
                     have hz2:(t.extract (i+1) p).size≤300:=by rw [ByteArray.size_extract];omega
                     have hz3:(t.extract (p+1) L).size≤300:=by rw [ByteArray.size_extract];omega
                     obtain ⟨s1,hs1⟩:∃ s1,t.extract 0 i=s1:=⟨_,rfl⟩
                     obtain ⟨i1,hi1⟩:∃ i1,i+1=i1:=⟨_,rfl⟩
                     obtain ⟨p1,hp1⟩:∃ p1,p+1=p1:=⟨_,rfl⟩
                     have hwi:IntKind.i64.wrap ((i:Int)+1)=(i1:Int):=by rw [IntKind.wrap_i64];omega
                     have hwp:IntKind.i64.wrap ((p:Int)+1)=(p1:Int):=by rw [IntKind.wrap_i64];omega
                     rw [hi1] at hz2 hcs;rw [hp1] at hz3 hcs
                     obtain ⟨s2,hs2⟩:∃ s2,t.extract i1 p=s2:=⟨_,rfl⟩
                     obtain ⟨s3,hs3⟩:∃ s3,t.extract p1 L=s3:=⟨_,rfl⟩
                     rw [hs1] at hz1 hcs;rw [hs2] at hz2 hcs;rw [hs3] at hz3 hcs
                     obtain ⟨v,hv⟩:∃ v,s1++s2=v:=⟨_,rfl⟩
                     rw [hv] at hcs
                     have hvz:v.size≤600:=by rw [← hv,ByteArray.size_append];omega
                     obtain ⟨u,hu⟩:∃ u,v++s3=u:=⟨_,rfl⟩
                     rw [hu] at hcs
                     have hj1:¬ 9223372036854775807<s1.size+s2.size:=by omega
                     have hj2:¬ 9223372036854775807<v.size+s3.size:=by omega
                     have hiL2:(i:Int)≤(L:Int):=by omega
                     have hip1:(i1:Int)≤(p:Int):=by omega
                     have hip0:(0:Int)≤(i1:Int):=by omega
                     have hpL2:(p:Int)≤(L:Int):=by omega
                     have hpL3:(p1:Int)≤(L:Int):=by omega
                     have hpL0:(0:Int)≤(p1:Int):=by omega
                     clear hi1 hp1
                     have HBD:=Lib.hid (Below.drew (Below.refl w4.heap.size w4))
                     have HX4:=Lib.hid (fun (wq:World) (hb:Below w4.heap.size w4 wq)=>HX.out.below (H4.out.trans (hb.mono H4.out.size)))
                     obtain ⟨res,hpu⟩:=PIs.all u
                     cases res with
                     | error e3 =>
                       have he3:=PIs_err u e3 hpu
                       have b3:(e3 == 0)=false:=beq_eq_false_iff_ne.2 he3
                       have HE3:=Lib.hid (fun (wq:World) (hb:Below w4.heap.size w4 wq)=>parse_err u wq (HX4.out wq hb).vars (HX4.out wq hb).ops e3 hpu)
                       have hi3:¬ e3=0:=he3
                       clear hpu he3 hcs hvz hz1 hz2 hz3
                       go_region_held3 (fun _=>True) (trivial) (first
                        | (go_at_call 11;((with_reducible refine (HE3.out _ HBD.out).mono ?_);rintro e w5 ⟨h1,rfl⟩;have H5:=Lib.hid (H4.out.trans ((HBD.out.trans (h1.mono HBD.out.size)).mono H4.out.size));clear h1)))
                       all_goals go_wp2_with (first
                        | (go_at_call 12;((with_reducible refine (num_is _ _).mono ?_);rintro e wn ⟨rfl,rfl⟩))
                        | (go_at_call 13;((with_reducible refine (HAW.out _ H5.out).mono ?_);rintro e w7 ⟨rfl,h1⟩;have H7:=Lib.hid (H5.out.trans (h1.mono H5.out.size));clear h1)))
                       all_goals go_ret
                       all_goals exact ⟨rfl,H7.out⟩
                     | ok ns3 =>
                       have hne3:ns≠ns3:=fun e=>least_no HT2.out (e ▸ hpu) (by rw [HL.out];exact hcs)
                       have hl3:=(PIs_told u ns3 hpu).1.1
                       have HE3:=Lib.hid (fun (wq:World) (hb:Below w4.heap.size w4 wq)=>parse_sn u wq (HX4.out wq hb) ns3 hpu)
                       have HSM:=Lib.hid (fun (w5:World) (v3:Value) (l3:List (Nd × Value)) (hm3:l3.map Prod.fst=ns3) (hs3:SN w5 w5.heap.size v3 l3) (hr:Below w4.heap.size w4 w5)=>(show Calls Tryz.prog 14 #[.slice (some ⟨g2,0,none⟩) k cap2,v3] w5 fun e w'=>e = .returned (.bool false)∧Below w5.heap.size w5 w' from by
                        have hll3:l3.length=ns3.length:=by rw [← hm3,List.length_map]
                        have hll2:l2.length=k:=by rw [← HK.out, ← HM2.out,List.length_map]
                        have hs2:=HS2.out.lift hr hr.size
                        refine (refSame_any w5 _ v3 l2 l3 hs2 hs3 (by omega) (by omega)).mono fun e w' h=>⟨?_,h.2⟩
                        rcases h.1.is with ⟨h,_⟩ | ⟨_,h⟩
                        · exact absurd ((HM2.out.symm.trans h).trans hm3) hne3
                        · exact h))
                       obtain ⟨k3,hk3⟩:∃ k3,ns3.length=k3:=⟨_,rfl⟩
                       rw [hk3] at HE3
                       clear hpu hcs hvz hz1 hz2 hz3 hne3 hl3 hk3
                       go_region_held3 (fun _=>True) (trivial) (first
                        | (go_at_call 11;((with_reducible refine (HE3.out _ HBD.out).mono ?_);rintro e w5 ⟨h1,g3,cap3,l3,rfl,hm3,hs3⟩;have H54:=Lib.hid (HBD.out.trans (h1.mono HBD.out.size));have H5:=Lib.hid (H4.out.trans (H54.out.mono H4.out.size));have HM3:=Lib.hid hm3;have HS3:=Lib.hid hs3;clear h1 hm3 hs3)))
                       all_goals go_wp2_with (first
                        | (go_at_call 12;((with_reducible refine (num_is _ _).mono ?_);rintro e wn ⟨rfl,rfl⟩))
                        | (go_at_call 14;((with_reducible refine (HSM.out _ _ l3 HM3.out HS3.out H54.out).mono ?_);rintro e w6 ⟨rfl,h1⟩;have H6:=Lib.hid (H5.out.trans (h1.mono H5.out.size));clear h1))
                        | (go_at_call 13;((with_reducible refine (HAW.out _ H6.out).mono ?_);rintro e w7 ⟨rfl,h1⟩;have H7:=Lib.hid (H6.out.trans (h1.mono H6.out.size));clear h1)))
                       all_goals go_ret
                       all_goals exact ⟨rfl,H7.out⟩
                   · have HNX:=Lib.hid (k3 hz0)
                     have bne:(d - 1 == 0)=false:=beq_eq_false_iff_ne.2 hz0
                     clear n1 n2 n3 k3
                     subst h41
                     go_wp2_with fail
                     go_roundw
                     case rel=>exact ⟨d - 1,p+1,by go_num,by go_num,by omega,by omega,by omega,Lib.hid HNX.out,by trivial⟩
                     case measure=>simp [intOf];omega
                 · have b41:(c == 41)=false:=beq_eq_false_iff_ne.2 h41
                   obtain ⟨k1,k2⟩:=n3 h40 h41
                   have HNX:=Lib.hid k1
                   have hne:¬ d=0:=by omega
                   have bne:(d == 0)=false:=beq_eq_false_iff_ne.2 hne
                   clear n1 n2 n3 k1
                   go_wp2_with fail
                   go_roundw
                   case rel=>exact ⟨d,p+1,by go_num,by go_num,by omega,by omega,by omega,Lib.hid HNX.out,by trivial⟩
                   case measure=>simp [intOf];omega
             · exact (HDI.out.stop HBAL.out (by rw [HPL.out];exact hlt) (by rw [HPL.out];omega)).elim
          · have hqi:¬ (q:Int)=(r:Int):=by omega
            have bqr:((q:Int) == (r:Int))=false:=beq_eq_false_iff_ne.2 hqi
            go_wp2_with fail
            go_roundw
            case rel=>exact ⟨q+1,i+1,by omega,by omega,by go_num,by go_num,by trivial⟩
            case measure=>simp [intOf];omega
    · have b40:(a == 40)=false:=beq_eq_false_iff_ne.2 h40
      go_wp2_with fail
      go_roundw
      case rel=>exact ⟨q,i+1,by omega,by omega,by go_num,by go_num,by trivial⟩
      case measure=>simp [intOf];omega
  · have hii:¬ (i:Int)<(L:Int):=by omega
    go_wp2_with (first
     | (go_at_call 13;((with_reducible refine (HAW.out _ H4.out).mono ?_);rintro e w7 ⟨rfl,h1⟩;have H7:=Lib.hid (H4.out.trans (h1.mono H4.out.size));clear h1)))
    go_ret
    exact ⟨rfl,H7.out⟩
end Go.Proofs.YtecpbligblnonaaGreatDoor
