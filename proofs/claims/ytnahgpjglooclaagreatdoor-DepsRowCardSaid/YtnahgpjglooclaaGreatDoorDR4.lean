/-
 Texts of layers, put together.
-/
import Derived.Test.YtnahgpjglooclaaGreatDoorDR3
import Derived.Lib.LaidTab
import Derived.Deep.RegionWith
import Derived.Deep.RegionHeld3
import Derived.Shelf.Strings.Builder1
import Derived.Shelf.Strings.Builder2
import Derived.Shelf.Small.Bits
import Derived.Shelf.Small.Strs
import Derived.Shelf.Strings.BuilderF
import Derived.Shelf.Strings.BuilderK
import Derived.Shelf.Utf8.RuneCount
import Derived.Shelf.Strconv.Atoi
import Derived.Shelf.Strconv.Itoa0
import Derived.Shelf.Strconv.Itoa1
import Derived.Shelf.LaysM
import Derived.Shelf.Strconv.Itoa2
import Derived.Shelf.Strconv.Itoa3
import Derived.Shelf.Strconv.AtoiErrFast
import Derived.Shelf.Strconv.ParseIntEmpty
import Derived.Shelf.Strconv.AtoiFail
import Derived.Shelf.Strconv.Clone
import Derived.Shelf.Strconv.SyntaxError
import Derived.Shelf.LaysC
import Derived.Shelf.Strconv.ToError
import Derived.Shelf.Strconv.Lower
import Derived.Shelf.Strconv.ParseUint10
import Derived.Shelf.Strconv.ParseUint10Empty
import Derived.Shelf.Strconv.ParseUint10Any
import Derived.Shelf.Strconv.ParseInt10
import Derived.Shelf.Strconv.AtoiLong
import Derived.Shelf.Strconv.AtoiInnerAll
import Derived.Shelf.Strconv.RangeError
import Derived.Shelf.Strconv.ToErrorRange
import Derived.Shelf.Strconv.AtoiAll
import Derived.Shelf.Strconv.ErrVarAll
import Derived.Shelf.Strings.Search1
import Derived.Shelf.Strings.Search2
import Derived.Shelf.Strings.Search3
import Derived.Shelf.Strings.Count
import Derived.Shelf.Strings.Shaped
import Derived.Shelf.Sort.Plain
import Derived.Shelf.Strings.Prefix
import Derived.Shelf.Strings.Split
import Derived.Shelf.Strings.Replace
import Derived.Shelf.Strings.SplitShaped
import Derived.Shelf.Unicode.Decode
import Derived.Shelf.Strings.RuneCount
import Derived.Shelf.Unicode.DecodeSlow
import Derived.Shelf.Unicode.DecodeAny
import Derived.Shelf.Slices.CompactS
import Derived.Shelf.Slices.Cells
import Derived.Test.YtnahgpjglooclaaGreatDoorProg
import Derived.Sort.OwnSorted
import Derived.Shelf.Slices.In.SortNone
import Derived.Deep.QuietTactic
import Derived.BigQuiet
import Derived.Maps.Keyed
import Derived.DeepKeys5
import Derived.MapKept
import Derived.Maps.OwnSet
namespace Go.Proofs.YtnahgpjglooclaaGreatDoor
open Go.RowKit
theorem Elem.kid:∃ n,n≤100∧Elem Tryz.prog 52 3 1 n:=⟨8,by omega,Tryz.underlying52,⟨.int .i64 0,by kernel_rfl,rfl⟩,by decide⟩
theorem Own.blockLt {α : Type} {size:Nat} {E:Enc α size} {e:TypeId} {w:World} {base:Nat} {v:Value} {xs:List α} (h:Own E e w base v xs):∀ g,v.ownBlock=Option.some g→base≤g∧g<w.heap.size∧∃ cur,w.heap[g]? = Option.some (.cells cur e):=by
 intro g e
 rcases h.2 with ⟨h1,_⟩ | ⟨g',cap,cur,h1,h2,h3,_⟩
 · rw [h1] at e;cases e
 · rw [h1] at e;injection e with e
   have e:g'=g:=e
   subst e
   exact ⟨h2,(Array.getElem?_eq_some_iff.1 h3).1,cur,h3⟩
theorem Ps.kids {w w':World} {b:Nat} {tv:Value} {ts:List Tk} {p deep:Nat} {nv:Value} {vs:List Nv} (h:Ps w b tv ts p deep nv vs) {r:Option Nat} (hg:w.grownBy w' r) (hr:∀ g,r=some g→b<g∧¬ NodeRow w g∧∀ v∈vs,v.kv.ownBlock≠some g):Ps w' b tv ts p deep nv vs:=by
 have hlow:=h.low
 refine ⟨?_, ?_,⟨h.nodes.1.keep ?_,fun v hv=>(h.nodes.2 v hv).keep ?_⟩, ?_,h.lt,h.low,h.fit,h.few,h.cnt,h.nest⟩
 · rw [hg.block b h.blt (by intro e;have:=(hr b e.symm).1;omega)];exact h.cell
 · obtain ⟨g,cap,h1,h2,h3⟩:=h.toks
   exact ⟨g,cap,h1,h2,h3.keep fun j _ hj e=>hg.block j hj (by
    intro e2
    have:=(hr j e2.symm).1
    rw [h1] at e;injection e with e;have:g=j:=e;omega)⟩
 · intro g h1 h2 h3
   exact hg.block g h2 (fun e=>(hr g e.symm).2.1 (h.row g h3).2)
 · intro g h1 h2 h3
   exact hg.block g h2 (fun e=>(hr g e.symm).2.2 v hv h3)
 · exact h.ops.keep (hg.block _ h.ops.lt (by intro e;have:=(hr _ e.symm).1;omega))
def callK (base:Nat) (name:ByteArray) (ns:List Nd) (ks:List Int) (r:List Tk):Option Res :=
 if signIs ⟨#[41]⟩ r=true then some (.ok (ns++[{ Nd.zero with kind:=7,text:=name,kids:=ks }],base+ns.length,r.tail)) else some (.error 5)
def caP (f deep base:Nat) (name:ByteArray) (ts:List Tk):Option Res :=
 if 12≤deep then some (.error 6)
 else bindR (if signIs ⟨#[41]⟩ ts.tail=true then some (.ok ([],[],ts.tail)) else argsP f (deep+1) base [] [] ts.tail) (callK base name)
set_option maxRecDepth 100000 in
set_option maxHeartbeats 2000000 in
theorem call_deep (f:Nat) (name:ByteArray) {w:World} {b:Nat} {tv:Value} {ts:List Tk} {p deep:Nat} {nv:Value} {vs:List Nv} (h:Ps w b tv ts p deep nv vs) (hnx:p+1<ts.length) (res:Res) (hres:caP f deep vs.length name (ts.drop p)=some res) (hd:12≤deep) :
 Calls Tryz.prog 147 #[.pointer (some ⟨b,0,none⟩),.string name] w (Out res w b tv ts deep vs):=by
 have HO:=Lib.hid (popen_any h hnx)
 unfold caP at hres
 rw [if_pos hd] at hres
 injection hres with hres
 have HR:=Lib.hid hres.symm
 clear hres h
 go_enter Tryz.func147,Tryz.ntmps147
 go_wp2_with (go_at_call 108;((with_reducible refine HO.out.mono ?_);rintro e w2 ⟨h1,⟨-,rfl⟩ | ⟨h2, -⟩⟩;rotate_left;exact absurd hd h2;have HF2:=Lib.hid h1;clear h1))
 go_ret
 exact Out.err HR.out (.inr rfl) HF2.out
theorem bindR_bind {α β γ α' β' γ' δ : Type} (x:Option (Except Int (α × β × γ))) (k : α → β → γ → Option (Except Int (α' × β' × γ'))) (K : α' → β' → γ'→Option (Except Int δ)):bindR (bindR x k) K=bindR x fun a b c=>bindR (k a b c) K:=by
 match x with
 | none=>rfl
 | some (.error e)=>rfl
 | some (.ok (a,b,c))=>rfl
set_option maxRecDepth 100000 in
set_option maxHeartbeats 4000000 in
theorem call_any (f:Nat) (IH:∀ g,g≤f→EX g) (name:ByteArray) {w:World} {b:Nat} {tv:Value} {ts:List Tk} {p deep:Nat} {nv:Value} {vs:List Nv} (h:Ps w b tv ts p deep nv vs) (hnx:p+1<ts.length) (res:Res) (hres:caP f deep vs.length name (ts.drop p)=some res) :
 Calls Tryz.prog 147 #[.pointer (some ⟨b,0,none⟩),.string name] w (Out res w b tv ts deep vs):=by
 by_cases hd:12≤deep
 · exact call_deep f name h hnx res hres hd
 have HO:=Lib.hid (popen_any h hnx)
 unfold caP at hres
 rw [if_neg hd,List.tail_drop] at hres
 have HRES:=Lib.hid hres
 have HIH:=Lib.hid IH
 have hbl:=h.blt
 obtain ⟨eb,hEB,EL⟩:=Elem.kid
 have HEL:=Lib.hid EL
 clear hres h IH EL
 go_enter Tryz.func147,Tryz.ntmps147
 go_upto_region 6 with (first
  | (go_at_call 108;((with_reducible refine HO.out.mono ?_);rintro e w2 ⟨h1,⟨h2, -⟩ | ⟨-,rfl,h3⟩⟩;exact absurd h2 hd;have HF2:=Lib.hid h1;have HP2:=Lib.hid h3;have HS2:=Lib.hid (isSign_any h3 ⟨#[41]⟩);clear h1 h3))
  | (go_at_call 107;((with_reducible refine HS2.out.mono ?_);rintro e w3 ⟨rfl,h1⟩;have HF3:=Lib.hid (HF2.out.below h1);have HP3:=Lib.hid (HP2.out.below h1);clear h1)))
 go_loopw [6,7] (fun kvs mv wr=>∃ (kv:Value) (more:Bool) (g:Nat) (ns:List Nd) (ks:List Int) (p':Nat) (nv':Value) (us:List Nv),kv=kvs∧mv = .bool more∧g≤f∧ks.length≤us.length∧us.length=ns.length ∧
  Hid ((more=true∧bindR (argsP g (deep+1) vs.length ns ks (ts.drop p')) (callK vs.length name)=some res)∨(more=false∧callK vs.length name ns ks (ts.drop p')=some res)) ∧
  Hid (us.map Nv.n=ns)∧Hid (∀ u∈us,∀ j,u.kv.ownBlock=some j→w.heap.size≤j)∧Hid (∀ u∈vs++us,∀ j,u.kv.ownBlock=some j→kv.ownBlock≠some j) ∧
  Hid (Own (encInt .i64) 3 wr w.heap.size kv ks)∧Hid (Ps wr b tv ts p' (deep+1) nv' (vs++us))∧Hid (Fr w wr b))
  (fun _ _ wr=>psm b ts.length wr)
 case atStart =>
  have hr:=HRES.out
  refine ⟨.slice none 0 0,_,f,[],[],p+1,nv,[],rfl,rfl,Nat.le_refl _,Nat.le_refl _,rfl, ?_,Lib.hid rfl,Lib.hid (by simp),Lib.hid (by intro u _ j _ e;cases e),Lib.hid (Own.nil _ _ _ _),by rw [List.append_nil];exact HP3,HF3⟩
  refine Lib.hid ?_
  cases hs:signIs ⟨#[41]⟩ (ts.drop (p+1))
  · rw [hs,if_neg (by decide)] at hr
    exact .inl ⟨rfl,hr⟩
  · rw [hs,if_pos rfl] at hr
    exact .inr ⟨rfl,hr⟩
 case round =>
  clear HO HRES HF2 HP2 HS2 HF3 HP3
  obtain ⟨kv,more,g,ns,ks,p',nv',us,rfl,rfl,hg,hkl,hul,HM,HU,HK,HJ,HOK,HPr,HF⟩:=hrel
  have hfew:=HPr.out.few
  have hlt:=HPr.out.lt
  have hcnt:=HPr.out.cnt
  have hlen:(vs++us).length=vs.length+us.length:=List.length_append
  have HPM:=Lib.hid (HPr.out.psm ts.length)
  cases more
  · have hK : callK vs.length name ns ks (ts.drop p')=some res:=by
     rcases HM.out with ⟨h1,_⟩ | ⟨_,h1⟩
     · cases h1
     · exact h1
    unfold callK at hK
    have HC:=Lib.hid (pclose_any HPr.out)
    cases hs:signIs ⟨#[41]⟩ (ts.drop p')
    · rw [hs,if_neg (by decide)] at hK
      injection hK with hK
      have HR:=Lib.hid hK.symm
      rw [hs] at HC
      clear hK hs HM
      go_wp2_with (go_at_call 148;((with_reducible refine HC.out.mono ?_);rintro e w6 ⟨h1,⟨-,rfl⟩ | ⟨h2, -⟩⟩;rotate_left;cases h2;have HF6:=Lib.hid (HF.out.trans h1);clear h1))
      go_ret
      exact Out.err HR.out (.inl rfl) HF6.out
    · rw [hs,if_pos rfl,List.tail_drop] at hK
      injection hK with hK
      have HR:=Lib.hid hK.symm
      rw [hs] at HC
      clear hK hs HM
      obtain ⟨v,hvn,hvk⟩:∃ v:Nv,v.n={ Nd.zero with kind:=7,text:=name,kids:=ks }∧v.kv=kv:=by
       rcases HOK.out.shape with ⟨rfl,rfl⟩ | ⟨g1,cap,rfl,_⟩
       · exact ⟨⟨_,none⟩,rfl,rfl⟩
       · exact ⟨⟨_,some (g1,cap)⟩,rfl,rfl⟩
      have HVN:=Lib.hid hvn;have HVK:=Lib.hid hvk
      clear hvn hvk
      have hkv:(∃ g1 n1 cap,kv = .slice (some ⟨g1,0,none⟩) n1 cap)∨kv = .slice none 0 0:=by
       rcases HOK.out.shape with ⟨h1,_⟩ | ⟨g1,cap,h1,_⟩
       · exact .inr h1
       · exact .inl ⟨g1,_,cap,h1⟩
      rcases hkv with ⟨g1,n1,cap,rfl⟩ | rfl
      all_goals
       go_upto_region 15 with (go_at_call 148;((with_reducible refine HC.out.mono ?_);rintro e w6 ⟨h1,⟨h2, -⟩ | ⟨-,rfl,h3⟩⟩;cases h2;have HF6:=Lib.hid (HF.out.trans h1);have HOK6:=Lib.hid (HOK.out.fr h1 hbl (by decide));have HP6:=Lib.hid h3;clear h1 h3))
       have HA:=Lib.hid (show Calls Tryz.prog 109 #[.pointer (some ⟨b,0,none⟩),.agg #[.int .i64 7,.int .i64 0,.string name,.string ⟨#[]⟩,.int .i64 0,.int .i64 0,.bool false,.bool false,.string ⟨#[]⟩,.int .i64 0,.int .i64 0,.bool false,.bool false,_]] w6 _ from add_any HP6.out v (by rw [HVK.out,HVN.out];exact HOK6.out.mono (by omega)) (by omega) _ HVK.out { Nd.zero with kind:=7,text:=name,kids:=ks } HVN.out)
       go_wp2_with (go_at_call 109;((with_reducible refine HA.out.mono ?_);rintro e w7 ⟨h1,rfl,nv7,h3⟩;have HF7:=Lib.hid (HF6.out.trans h1);have HP7:=Lib.hid h3;clear h1 h3))
       go_ret
       refine ⟨HF7.out,.inr ⟨_,_,_,HR.out,rfl,p'+1,nv7,us++[v],rfl, ?_, ?_,by rw [← List.append_assoc];exact HP7.out⟩⟩
       · rw [List.map_append,HU.out,List.map_cons,List.map_nil,HVN.out]
       · intro u hu j hj
         rcases List.mem_append.1 hu with hu | hu
         · exact HK.out u hu j hj
         · rw [List.mem_singleton.1 hu,HVK.out] at hj
           exact (HOK.out.blockLt j hj).1
  · have hA:bindR (argsP g (deep+1) vs.length ns ks (ts.drop p')) (callK vs.length name)=some res:=by
     rcases HM.out with ⟨_,h1⟩ | ⟨h1,_⟩
     · exact h1
     · cases h1
    match g,hg,hA with
    | 0,_,hA=>unfold argsP bindR at hA;cases hA
    | g+1,hg,hA =>
    rw [argsP_succ,bindR_bind] at hA
    have hbase:vs.length+ns.length=(vs++us).length:=by rw [hlen,hul]
    rw [hbase] at hA
    rcases bindR_some hA with ⟨c,h1,rfl⟩ | ⟨ms,a,r,h1,h2⟩
    · have HL:=Lib.hid (show Calls Tryz.prog 58 #[.pointer (some ⟨b,0,none⟩),.int .i64 0] wr (Out (.error c) wr b tv ts (deep+1) (vs++us)) from HIH.out g (by omega) 0 (deep+1) _ wr b tv ts p' nv' (vs++us) (by omega) HPr.out h1)
      clear h1 hA HM
      go_wp2_with (go_at_call 58;((with_reducible refine HL.out.mono ?_);intro e w5 ho;obtain ⟨hf,hc,rfl⟩:=ho.bad rfl;have HF5:=Lib.hid (HF.out.trans hf);have HC:=Lib.hid hc;have hc0:(c != 0)=true:=(by rw [bne_iff_ne];rcases hc with h | h <;> omega);clear hf hc ho))
      go_ret
      exact Out.err rfl HC.out HF5.out
    · have HL:=Lib.hid (show Calls Tryz.prog 58 #[.pointer (some ⟨b,0,none⟩),.int .i64 0] wr (Out (.ok (ms,a,r)) wr b tv ts (deep+1) (vs++us)) from HIH.out g (by omega) 0 (deep+1) _ wr b tv ts p' nv' (vs++us) (by omega) HPr.out h1)
      have H1:=Lib.hid h1
      have H2:=Lib.hid h2
      clear h1 h2 hA HM
      go_upto_region 11 with (go_at_call 58;((with_reducible refine HL.out.mono ?_);intro e w5 ho;obtain ⟨hf,rfl,p5,nv5,us5,hp5,hu5,hk5,hps5⟩:=ho.good rfl;have HF5:=Lib.hid (HF.out.trans hf);have HOK5:=Lib.hid (HOK.out.fr hf hbl (by decide));have HP5:=Lib.hid hps5;have HD5:=Lib.hid hp5;have HU5:=Lib.hid hu5;have HK5:=Lib.hid hk5;clear hf ho hp5 hu5 hk5 hps5))
      obtain ⟨hc1,hc2,hc3⟩:=count_at H1.out HD5.out HP5.out.lt
      have hus5:us5.length=ms.length:=by rw [← HU5.out,List.length_map]
      have hlen5:((vs++us)++us5).length=vs.length+us.length+us5.length:=by rw [List.length_append,List.length_append]
      have HRT5:=Lib.hid (root_is HP5.out a (by omega))
      have hsz5:=HF5.out.size
      have HZr:=Lib.hid HF.out.size
      have HJ5:=Lib.hid (show ∀ u∈(vs++us)++us5,∀ j,u.kv.ownBlock=some j→kv.ownBlock≠some j from by
       intro u hu j hj
       rcases List.mem_append.1 hu with hu | hu
       · exact HJ.out u hu j hj
       · intro e
         have h3:=HK5.out u hu j hj
         have h4:=(HOK.out.blockLt j e).2.1
         omega)
      clear HL HOK HJ
      go_upto_region 7 with (first
       | (go_at_call 110;((with_reducible refine HRT5.out.mono ?_);rintro e wn ⟨rfl,rfl⟩))
       | (at_builtin;refine wpList_app_at HEL.out (encInt .i64) rfl (.tmp 26) (.tmp 29) rfl w.heap.size kv ks rfl (HOK5.out.alloc _) ⟨w5.heap.size,0,none⟩ 1 1 [(a:Int)] rfl rfl ?_ ?_ ?_ ?_ ?_;exact cells_new _ _ _ rfl;exact Nat.le_trans (Nat.mul_le_mul_left _ hEB) (by omega);(unfold maxLen;omega);(simp <;> omega);intro kv' w6 h1 h2 h3;have HO6:=Lib.hid h1;have HG6:=Lib.hid h2;have HAT:=Lib.hid h3;clear h1 h2 h3))
      have hB6:Below w5.heap.size w5 (w5.alloc (.cells #[.int .i64 (a:Int)] 3)):=(Below.refl _ _).alloc (Nat.le_refl _) _
      have hO5:=HOK5.out.alloc (.cells #[.int .i64 (a:Int)] 3)
      have HP6:=Lib.hid ((HP5.out.below hB6).kids HG6.out (by
       intro j e
       obtain ⟨q1,q2,cur,q3⟩:=hO5.blockLt j e
       refine ⟨by omega, ?_,fun u hu e2=>HJ5.out u hu j e2 e⟩
       rintro ⟨cur',fr,e2⟩
       rw [q3] at e2;injection e2 with e2;injection e2 with _ e2
       exact absurd e2 (by decide)))
      have HF6:=Lib.hid ((HF5.out.below hB6).row HG6.out (by
       intro j e
       obtain ⟨q1,q2,cur,q3⟩:=hO5.blockLt j e
       exact ⟨by omega,.inl q1⟩))
      have HJ6:=Lib.hid (show ∀ u∈(vs++us)++us5,∀ j,u.kv.ownBlock=some j→kv'.ownBlock≠some j from by
       intro u hu j hj
       rcases HAT.out with e | e
       · rw [e];exact HJ5.out u hu j hj
       · rw [e]
         have h4:=((HP5.out.nodes.2 u hu).blockLt j hj).2.1
         intro e2;injection e2 with e2
         simp at e2;omega)
      have HT6:=Lib.hid (ptake_any HP6.out ⟨#[44]⟩)
      have h2:=H2.out
      rw [← HD5.out] at h2
      clear hB6 hO5 HG6 HAT HJ5 HOK5 HF HPr H2 HRT5
      have hKU:∀ u∈us++us5,∀ j,u.kv.ownBlock=some j→w.heap.size≤j:=by
       intro u hu j hj
       rcases List.mem_append.1 hu with hu | hu
       · exact HK.out u hu j hj
       · exact Nat.le_trans HZr.out (HK5.out u hu j hj)
      have HKU:=Lib.hid hKU;clear hKU
      cases hs:signIs ⟨#[44]⟩ (ts.drop p5)
      · rw [hs,if_neg (by decide)] at h2
        have HN:=Lib.hid (show callK vs.length name (ns++ms) (ks++[(a:Int)]) (ts.drop p5)=some res from h2)
        rw [hs,if_neg (by decide)] at HT6
        clear h2 hs
        go_wp2_with (go_at_call 145;((with_reducible refine HT6.out.mono ?_);rintro e w7 ⟨h1,rfl,h3⟩;have HF7:=Lib.hid (HF6.out.trans h1);have HO7:=Lib.hid (HO6.out.fr h1 hbl (by decide));have HP7:=Lib.hid h3;clear h1 h3))
        go_roundw
        case rel =>
         refine ⟨kv',false,g,ns++ms,ks++[(a:Int)],p5,nv5,us++us5,rfl,rfl,by omega,by rw [List.length_append,List.length_append,List.length_singleton];omega,by rw [List.length_append,List.length_append];omega,Lib.hid (.inr ⟨rfl,HN.out⟩),Lib.hid (by rw [List.map_append,HU.out,HU5.out]),HKU, ?_,HO7, ?_,HF7⟩
         · rw [← List.append_assoc];exact HJ6
         · rw [← List.append_assoc];exact HP7
        case measure =>
         have h1:=HP7.out.psm ts.length
         rw [HPM.out,h1];omega
      · rw [hs,if_pos rfl,List.tail_drop] at h2
        have HN:=Lib.hid h2
        have hnx5:=sign_next HP6.out hs
        rw [hs,if_pos rfl] at HT6
        clear h2 hs
        go_wp2_with (go_at_call 145;((with_reducible refine HT6.out.mono ?_);rintro e w7 ⟨h1,rfl,h3⟩;have HF7:=Lib.hid (HF6.out.trans h1);have HO7:=Lib.hid (HO6.out.fr h1 hbl (by decide));have HP7:=Lib.hid h3;clear h1 h3))
        go_roundw
        case rel =>
         refine ⟨kv',true,g,ns++ms,ks++[(a:Int)],p5+1,nv5,us++us5,rfl,rfl,by omega,by rw [List.length_append,List.length_append,List.length_singleton];omega,by rw [List.length_append,List.length_append];omega,Lib.hid (.inl ⟨rfl,HN.out⟩),Lib.hid (by rw [List.map_append,HU.out,HU5.out]),HKU, ?_,HO7, ?_,HF7⟩
         · rw [← List.append_assoc];exact HJ6
         · rw [← List.append_assoc];exact HP7
        case measure =>
         have h1:=HP7.out.psm ts.length
         rw [HPM.out,h1];omega
def wordP (f deep base:Nat) (name:ByteArray) (ts:List Tk):Option Res :=
 if name=⟨#[84,82,85,69]⟩ then some (.ok ([{ Nd.zero with kind:=3,num:=1 }],base,ts))
 else if name=⟨#[70,65,76,83,69]⟩ then some (.ok ([{ Nd.zero with kind:=3 }],base,ts))
 else if signIs ⟨#[40]⟩ ts=true then caP f deep base name ts else some (.error 5)
theorem word_eq (name c:ByteArray):(name.toList == c.toList)=decide (name=c):=by
 by_cases h:name=c
 · rw [h,decide_eq_true rfl];simp
 · rw [decide_eq_false h];exact beq_eq_false_iff_ne.2 (text_ne _ _ h)
theorem list_true:(⟨#[84,82,85,69]⟩:ByteArray).toList=[84,82,85,69]:=by rw [list_bytes]
theorem list_false:(⟨#[70,65,76,83,69]⟩:ByteArray).toList=[70,65,76,83,69]:=by rw [list_bytes]
set_option maxRecDepth 100000 in
set_option maxHeartbeats 2000000 in
theorem pword_any (f:Nat) (IH:∀ g,g≤f→EX g) (name:ByteArray) {w:World} {b:Nat} {tv:Value} {ts:List Tk} {p deep:Nat} {nv:Value} {vs:List Nv} (h:Ps w b tv ts p deep nv vs) (hnx:p+1<ts.length) (res:Res) (hres:wordP f deep vs.length name (ts.drop (p+1))=some res) :
 Calls Tryz.prog 113 #[.pointer (some ⟨b,0,none⟩),.string name] w (Out res w b tv ts deep vs):=by
 unfold wordP at hres
 have q1:=word_eq name ⟨#[84,82,85,69]⟩
 have q2:=word_eq name ⟨#[70,65,76,83,69]⟩
 rw [list_true] at q1
 rw [list_false] at q2
 by_cases h1:name=⟨#[84,82,85,69]⟩
 · rw [decide_eq_true h1] at q1
   rw [if_pos h1] at hres
   injection hres with hres
   have HR:=Lib.hid hres.symm
   have HA:=Lib.hid (show Calls Tryz.prog 111 #[.pointer (some ⟨b,0,none⟩),.agg #[.int .i64 3,.int .i64 1,.string ⟨#[]⟩,.string ⟨#[]⟩,.int .i64 0,.int .i64 0,.bool false,.bool false,.string ⟨#[]⟩,.int .i64 0,.int .i64 0,.bool false,.bool false,.slice none 0 0]] w _ from leaf_any h hnx { Nd.zero with kind:=3,num:=1 } rfl)
   clear hres h h1 q2
   go_enter Tryz.func113,Tryz.ntmps113
   go_wp2_with (go_at_call 111;((with_reducible refine HA.out.mono ?_);rintro e w7 ⟨h1,rfl,nv',h3⟩;have HF7:=Lib.hid h1;have HP7:=Lib.hid h3;clear h1 h3))
   go_ret
   exact Out.leaf HR.out HF7.out rfl HP7.out
 rw [decide_eq_false h1] at q1
 rw [if_neg h1] at hres
 by_cases h2:name=⟨#[70,65,76,83,69]⟩
 · rw [decide_eq_true h2] at q2
   rw [if_pos h2] at hres
   injection hres with hres
   have HR:=Lib.hid hres.symm
   have HA:=Lib.hid (show Calls Tryz.prog 111 #[.pointer (some ⟨b,0,none⟩),.agg #[.int .i64 3,.int .i64 0,.string ⟨#[]⟩,.string ⟨#[]⟩,.int .i64 0,.int .i64 0,.bool false,.bool false,.string ⟨#[]⟩,.int .i64 0,.int .i64 0,.bool false,.bool false,.slice none 0 0]] w _ from leaf_any h hnx { Nd.zero with kind:=3 } rfl)
   clear hres h h1 h2
   go_enter Tryz.func113,Tryz.ntmps113
   go_wp2_with (go_at_call 111;((with_reducible refine HA.out.mono ?_);rintro e w7 ⟨h1,rfl,nv',h3⟩;have HF7:=Lib.hid h1;have HP7:=Lib.hid h3;clear h1 h3))
   go_ret
   exact Out.leaf HR.out HF7.out rfl HP7.out
 rw [decide_eq_false h2] at q2
 rw [if_neg h2] at hres
 obtain ⟨c0,c1,c2,c3⟩:=h.facts
 have f1:=h.frozen 1
 have hfew:=h.few
 have HP:=Lib.hid h
 clear c0 c2 c3 h1 h2 h
 have HP1:=Lib.hid (HP.out.next hnx)
 have HF1:=Lib.hid ((Fr.refl w b).setCell 1 (.int .i64 ((p:Int)+1)))
 cases hs:signIs ⟨#[40]⟩ (ts.drop (p+1))
 · rw [hs,if_neg (by decide)] at hres
   injection hres with hres
   have HR:=Lib.hid hres.symm
   have HS:=isSign_any HP1.out ⟨#[40]⟩
   rw [hs] at HS
   have HS:=Lib.hid HS
   clear hres hs
   go_enter Tryz.func113,Tryz.ntmps113
   go_upto_region 7 with (fail)
   generalize w.setCell ⟨b,1,none⟩ (.int .i64 ((p:Int)+1))=w1 at HP1 HF1 HS ⊢
   go_wp2_with (go_at_call 107;((with_reducible refine HS.out.mono ?_);rintro e w2 ⟨rfl,h1⟩;have HF2:=Lib.hid (HF1.out.below h1);clear h1))
   go_ret
   exact Out.err HR.out (.inl rfl) HF2.out
 · rw [hs,if_pos rfl] at hres
   have HRES:=Lib.hid hres
   have hnx1:=sign_next HP1.out hs
   have HS:=isSign_any HP1.out ⟨#[40]⟩
   rw [hs] at HS
   have HS:=Lib.hid HS
   have HIH:=Lib.hid IH
   clear hres hs IH
   go_enter Tryz.func113,Tryz.ntmps113
   go_upto_region 7 with (fail)
   generalize w.setCell ⟨b,1,none⟩ (.int .i64 ((p:Int)+1))=w1 at HP1 HF1 HS ⊢
   go_wp2_with (first
    | (go_at_call 107;((with_reducible refine HS.out.mono ?_);rintro e w2 ⟨rfl,h1⟩;have HF2:=Lib.hid (HF1.out.below h1);have HCA:=Lib.hid (call_any f HIH.out name (HP1.out.below h1) hnx1 res HRES.out);clear h1))
    | (go_at_call 147;((with_reducible refine HCA.out.mono ?_);intro e w3 ho;have HOO:=Lib.hid ho;obtain ⟨c,rfl⟩:=ho.ret;clear ho)))
   go_ret
   obtain ⟨hf,h2⟩:=HOO.out
   refine ⟨HF2.out.trans hf,h2.imp id ?_⟩
   rintro ⟨ms,a,r,g1,g2,p',nv',us,g3,g4,g5,g6⟩
   exact ⟨ms,a,r,g1,g2,p',nv',us,g3,g4,fun u hu j hj=>Nat.le_trans HF2.out.size (g5 u hu j hj),g6⟩
theorem Out.from {res:Res} {w w2 w3:World} {b:Nat} {tv:Value} {ts:List Tk} {deep:Nat} {vs:List Nv} {e:Ending} (hf:Fr w w2 b) (h:Out res w2 b tv ts deep vs e w3):Out res w b tv ts deep vs e w3:=by
 refine ⟨hf.trans h.1,h.2.imp id ?_⟩
 rintro ⟨ms,a,r,g1,g2,p',nv',us,g3,g4,g5,g6⟩
 exact ⟨ms,a,r,g1,g2,p',nv',us,g3,g4,fun u hu j hj=>Nat.le_trans hf.size (g5 u hu j hj),g6⟩
theorem sign_kind {s:ByteArray} {t:Tk} {ts:List Tk} (h:¬ t.kind=5):signIs s (t :: ts)=false:=by
 show (decide (t.kind=5)&&decide (t.text=s))=false
 rw [decide_eq_false h];rfl
set_option maxRecDepth 100000 in
set_option maxHeartbeats 4000000 in
theorem prim_any (f:Nat) (IH:∀ g,g≤f→EX g) {w:World} {b:Nat} {tv:Value} {ts:List Tk} {p deep:Nat} {nv:Value} {vs:List Nv} (h:Ps w b tv ts p deep nv vs) (res:Res) (hres:primP (f+1) deep vs.length (ts.drop p)=some res) :
 Calls Tryz.prog 82 #[.pointer (some ⟨b,0,none⟩)] w (Out res w b tv ts deep vs):=by
 obtain ⟨g,cap,t, -,ht,hd, -⟩:=h.tok
 have HTK:=Lib.hid (ptoken_any h t ht)
 have HP:=Lib.hid h
 have hbl:=h.blt
 rw [hd,primP_cons] at hres
 go_enter Tryz.func82,Tryz.ntmps82
 go_upto_region 2 with (go_at_call 59;((with_reducible refine HTK.out.mono ?_);rintro e w1 ⟨rfl,h1⟩;have HB:=Lib.hid h1;clear h1))
 have hB3:Below w1.heap.size w1 (w1.alloc (.cells #[.int .i64 t.kind,.string t.text,.int .i64 t.num,.string t.sh,.int .i64 t.c,.int .i64 t.r,.bool t.ac,.bool t.ar,.int .i64 t.pos] 125)):=(Below.refl _ _).alloc (Nat.le_refl _) _
 have HN3:TkAt (w1.alloc (.cells #[.int .i64 t.kind,.string t.text,.int .i64 t.num,.string t.sh,.int .i64 t.c,.int .i64 t.r,.bool t.ac,.bool t.ar,.int .i64 t.pos] 125)) w1.heap.size t:=TkAt.new w1 t
 have HB3:=Lib.hid (HB.out.trans (hB3.mono HB.out.size))
 clear hB3 HB
 generalize hb4:w1.heap.size=b4 at HN3 ⊢
 generalize w1.alloc (.cells #[.int .i64 t.kind,.string t.text,.int .i64 t.num,.string t.sh,.int .i64 t.c,.int .i64 t.r,.bool t.ac,.bool t.ar,.int .i64 t.pos] 125)=w3 at HN3 HB3 ⊢
 clear hb4 HTK
 obtain ⟨x0,x1,x2,x3,x4,x5,x6,x7,x8⟩:=HN3.cells
 clear HN3
 have HP3:=Lib.hid (HP.out.below HB3.out)
 have HF3:=Lib.hid (Fr.of b HB3.out)
 obtain ⟨kd,hkd⟩:∃ kd,t.kind=kd:=⟨_,rfl⟩
 by_cases k1:t.kind=1
 · have hnx:=h.fit.next ht (by omega)
   rw [sign_kind (by omega),if_neg (by decide),if_pos k1] at hres
   injection hres with hres
   have HR:=Lib.hid hres.symm
   have HA:=Lib.hid (show Calls Tryz.prog 111 #[.pointer (some ⟨b,0,none⟩),.agg #[.int .i64 1,.int .i64 t.num,.string ⟨#[]⟩,.string ⟨#[]⟩,.int .i64 0,.int .i64 0,.bool false,.bool false,.string ⟨#[]⟩,.int .i64 0,.int .i64 0,.bool false,.bool false,.slice none 0 0]] w3 _ from leaf_any HP3.out hnx { Nd.zero with kind:=1,num:=t.num } rfl)
   have e1:(kd == 1)=true:=beq_iff_eq.2 (by omega)
   rw [hkd] at x0
   clear hres hd ht k1 hkd h
   go_wp2_with (go_at_call 111;((with_reducible refine HA.out.mono ?_);rintro e w7 ⟨h1,rfl,nv',h3⟩;have HF7:=Lib.hid (HF3.out.trans h1);have HP7:=Lib.hid h3;clear h1 h3))
   go_ret
   exact Out.leaf HR.out HF7.out rfl HP7.out
 have e1:(kd == 1)=false:=beq_eq_false_iff_ne.2 (by omega)
 by_cases k2:t.kind=2
 · have hnx:=h.fit.next ht (by omega)
   rw [sign_kind (by omega),if_neg (by decide),if_neg k1,if_pos k2] at hres
   injection hres with hres
   have HR:=Lib.hid hres.symm
   have HA:=Lib.hid (show Calls Tryz.prog 111 #[.pointer (some ⟨b,0,none⟩),.agg #[.int .i64 2,.int .i64 0,.string t.text,.string ⟨#[]⟩,.int .i64 0,.int .i64 0,.bool false,.bool false,.string ⟨#[]⟩,.int .i64 0,.int .i64 0,.bool false,.bool false,.slice none 0 0]] w3 _ from leaf_any HP3.out hnx { Nd.zero with kind:=2,text:=t.text } rfl)
   have e2:(kd == 2)=true:=beq_iff_eq.2 (by omega)
   rw [hkd] at x0
   clear hres hd ht k1 k2 hkd h
   go_wp2_with (go_at_call 111;((with_reducible refine HA.out.mono ?_);rintro e w7 ⟨h1,rfl,nv',h3⟩;have HF7:=Lib.hid (HF3.out.trans h1);have HP7:=Lib.hid h3;clear h1 h3))
   go_ret
   exact Out.leaf HR.out HF7.out rfl HP7.out
 have e2:(kd == 2)=false:=beq_eq_false_iff_ne.2 (by omega)
 by_cases k6:t.kind=6
 · have hnx:=h.fit.next ht (by omega)
   rw [sign_kind (by omega),if_neg (by decide),if_neg k1,if_neg k2,if_pos k6] at hres
   injection hres with hres
   have HR:=Lib.hid hres.symm
   have HA:=Lib.hid (show Calls Tryz.prog 111 #[.pointer (some ⟨b,0,none⟩),.agg #[.int .i64 4,.int .i64 0,.string ⟨#[]⟩,.string ⟨#[]⟩,.int .i64 0,.int .i64 0,.bool false,.bool false,.string ⟨#[]⟩,.int .i64 0,.int .i64 0,.bool false,.bool false,.slice none 0 0]] w3 _ from leaf_any HP3.out hnx { Nd.zero with kind:=4 } rfl)
   have e6:(kd == 6)=true:=beq_iff_eq.2 (by omega)
   rw [hkd] at x0
   clear hres hd ht k1 k2 k6 hkd h
   go_wp2_with (go_at_call 111;((with_reducible refine HA.out.mono ?_);rintro e w7 ⟨h1,rfl,nv',h3⟩;have HF7:=Lib.hid (HF3.out.trans h1);have HP7:=Lib.hid h3;clear h1 h3))
   go_ret
   exact Out.leaf HR.out HF7.out rfl HP7.out
 have e6:(kd == 6)=false:=beq_eq_false_iff_ne.2 (by omega)
 by_cases k4:t.kind=4
 · have hnx:=h.fit.next ht (by omega)
   rw [sign_kind (by omega),if_neg (by decide),if_neg k1,if_neg k2,if_neg k6,if_pos k4] at hres
   injection hres with hres
   have HA:=Lib.hid (place_any HP3.out t hnx vs.length)
   rw [hres] at HA
   have e4:(kd == 4)=true:=beq_iff_eq.2 (by omega)
   rw [hkd] at x0
   clear hres hd ht k1 k2 k6 k4 hkd h
   go_wp2_with (go_at_call 112;((with_reducible refine HA.out.mono ?_);intro e w7 ho;have HOO:=Lib.hid (Out.from HF3.out ho);obtain ⟨c,rfl⟩:=ho.ret;clear ho))
   go_ret
   exact HOO.out
 have e4:(kd == 4)=false:=beq_eq_false_iff_ne.2 (by omega)
 by_cases k3:t.kind=3
 · have hnx:=h.fit.next ht (by omega)
   rw [sign_kind (by omega),if_neg (by decide),if_neg k1,if_neg k2,if_neg k6,if_neg k4,if_pos k3] at hres
   have HA:=Lib.hid (pword_any f IH t.text HP3.out hnx res hres)
   have e3:(kd == 3)=true:=beq_iff_eq.2 (by omega)
   rw [hkd] at x0
   clear hres hd ht k1 k2 k6 k4 k3 hkd h IH
   go_wp2_with (go_at_call 113;((with_reducible refine HA.out.mono ?_);intro e w7 ho;have HOO:=Lib.hid (Out.from HF3.out ho);obtain ⟨c,rfl⟩:=ho.ret;clear ho))
   go_ret
   exact HOO.out
 have e3:(kd == 3)=false:=beq_eq_false_iff_ne.2 (by omega)
 have hb:brP f deep vs.length (ts.drop p)=some res:=by
  unfold brP
  rw [hd]
  by_cases c:signIs ⟨#[40]⟩ (t :: ts.drop (p+1))=true
  · rw [if_pos c] at hres ⊢;exact hres
  · rw [if_neg c,if_neg k1,if_neg k2,if_neg k6,if_neg k4,if_neg k3] at hres
    rw [if_neg c];exact hres
 have HA:=Lib.hid (inBrackets_any f (IH f (Nat.le_refl _)) HP3.out res hb)
 rw [hkd] at x0
 clear hres hd ht k1 k2 k6 k4 k3 hkd h IH hb
 go_wp2_with (go_at_call 114;((with_reducible refine HA.out.mono ?_);intro e w7 ho;have HOO:=Lib.hid (Out.from HF3.out ho);obtain ⟨c,rfl⟩:=ho.ret;clear ho))
 go_ret
 exact HOO.out
set_option maxRecDepth 100000 in
set_option maxHeartbeats 4000000 in
theorem unary_any (f:Nat) (IH:∀ g,g≤f→EX g) {w:World} {b:Nat} {tv:Value} {ts:List Tk} {p deep:Nat} {nv:Value} {vs:List Nv} (h:Ps w b tv ts p deep nv vs) (res:Res) (hres:exprP (f+1) 4 deep vs.length (ts.drop p)=some res) :
 Calls Tryz.prog 81 #[.pointer (some ⟨b,0,none⟩)] w (Out res w b tv ts deep vs):=by
 have HS:=Lib.hid (isSign_any h ⟨#[45]⟩)
 rw [exprP_succ,if_neg (by omega)] at hres
 have HP:=Lib.hid h
 cases hq:signIs ⟨#[45]⟩ (ts.drop p)
 · rw [hq,if_neg (by decide)] at hres
   rw [hq] at HS
   match f,IH,hres with
   | 0,_,hres=>unfold primP at hres;cases hres
   | f+1,IH,hres =>
   have HL:=Lib.hid (fun w1 (hb:Below w.heap.size w w1)=>level_enter b 5 (by omega) w1 (Out res w b tv ts deep vs) (fun e w' ho=>ho.ret) (fun w2 hb2=>by
    rw [lv5]
    exact (prim_any f (fun g hg=>IH g (by omega)) (HP.out.below (hb.trans (hb2.mono hb.size))) res hres).mono fun e w3 ho=>Out.from (Fr.of b (hb.trans (hb2.mono hb.size))) ho))
   clear hq hres h IH
   go_enter Tryz.func81,Tryz.ntmps81
   go_wp2_with (first
    | (go_at_call 107;((with_reducible refine HS.out.mono ?_);rintro e w1 ⟨rfl,h1⟩;have HL1:=Lib.hid (show Calls Tryz.prog 58 #[.pointer (some ⟨b,0,none⟩),.int .i64 5] w1 (Out res w b tv ts deep vs) from HL.out w1 h1);clear h1))
    | (go_at_call 58;((with_reducible refine HL1.out.mono ?_);intro e w2 ho;have HOO:=Lib.hid ho;obtain ⟨c,rfl⟩:=ho.ret;clear ho)))
   go_ret
   exact HOO.out
 · have hnx := sign_next h hq
   rw [hq,if_pos rfl] at hres
   rw [hq] at HS
   by_cases hd:12≤deep
   · rw [if_pos hd] at hres
     injection hres with hres
     have HR:=Lib.hid hres.symm
     clear hq hres h IH
     go_enter Tryz.func81,Tryz.ntmps81
     go_wp2_with (first
      | (go_at_call 107;((with_reducible refine HS.out.mono ?_);rintro e w1 ⟨rfl,h1⟩;have HF1:=Lib.hid (Fr.of b h1);have HO1:=Lib.hid (popen_any (HP.out.below h1) hnx);clear h1))
      | (go_at_call 108;((with_reducible refine HO1.out.mono ?_);rintro e w2 ⟨h1,⟨-,rfl⟩ | ⟨h2, -⟩⟩;rotate_left;exact absurd hd h2;have HF2:=Lib.hid (HF1.out.trans h1);clear h1)))
     go_ret
     exact Out.err HR.out (.inr rfl) HF2.out
   · rw [if_neg hd,List.tail_drop] at hres
     rcases bindR_some hres with ⟨c,h1,rfl⟩ | ⟨ns,a,r,h1,h2⟩
     · have HI:=Lib.hid (fun w2 hps=>IH f (Nat.le_refl _) 4 (deep+1) _ w2 b tv ts (p+1) nv vs (by omega) hps h1)
       clear hq hres h IH h1
       go_enter Tryz.func81,Tryz.ntmps81
       go_wp2_with (first
        | (go_at_call 107;((with_reducible refine HS.out.mono ?_);rintro e w1 ⟨rfl,h1⟩;have HF1:=Lib.hid (Fr.of b h1);have HO1:=Lib.hid (popen_any (HP.out.below h1) hnx);clear h1))
        | (go_at_call 108;((with_reducible refine HO1.out.mono ?_);rintro e w2 ⟨h1,⟨h2, -⟩ | ⟨-,rfl,h3⟩⟩;exact absurd h2 hd;have HF2:=Lib.hid (HF1.out.trans h1);have HL:=Lib.hid (show Calls Tryz.prog 58 #[.pointer (some ⟨b,0,none⟩),.int .i64 4] w2 (Out (.error c) w2 b tv ts (deep+1) vs) from HI.out w2 h3);clear h1 h3))
        | (go_at_call 58;((with_reducible refine HL.out.mono ?_);intro e w5 ho;obtain ⟨hf,hc,rfl⟩:=ho.bad rfl;have HF5:=Lib.hid (HF2.out.trans hf);have HC:=Lib.hid hc;have hc0:(c != 0)=true:=(by rw [bne_iff_ne];rcases hc with h | h <;> omega);clear hf hc ho)))
       go_ret
       exact Out.err rfl HC.out HF5.out
     · have HI:=Lib.hid (fun w2 hps=>IH f (Nat.le_refl _) 4 (deep+1) _ w2 b tv ts (p+1) nv vs (by omega) hps h1)
       have H1:=Lib.hid h1
       injection h2 with h2
       have HR:=Lib.hid h2.symm
       have hcn:=h.cnt
       have hnest:deep≤12:=by omega
       clear hq hres h IH h1 h2
       go_enter Tryz.func81,Tryz.ntmps81
       go_upto_region 9 with (first
        | (go_at_call 107;((with_reducible refine HS.out.mono ?_);rintro e w1 ⟨rfl,h1⟩;have HF1:=Lib.hid (Fr.of b h1);have HO1:=Lib.hid (popen_any (HP.out.below h1) hnx);clear h1))
        | (go_at_call 108;((with_reducible refine HO1.out.mono ?_);rintro e w2 ⟨h1,⟨h2, -⟩ | ⟨-,rfl,h3⟩⟩;exact absurd h2 hd;have HF2:=Lib.hid (HF1.out.trans h1);have HL:=Lib.hid (show Calls Tryz.prog 58 #[.pointer (some ⟨b,0,none⟩),.int .i64 4] w2 (Out (.ok (ns,a,r)) w2 b tv ts (deep+1) vs) from HI.out w2 h3);clear h1 h3))
        | (go_at_call 58;((with_reducible refine HL.out.mono ?_);intro e w5 ho;obtain ⟨hf,rfl,p5,nv5,us5,hp5,hu5,hk5,hps5⟩:=ho.good rfl;have HF5:=Lib.hid (HF2.out.trans hf);have HP5:=Lib.hid hps5;have HD5:=Lib.hid hp5;have HU5:=Lib.hid hu5;have HK5:=Lib.hid hk5;clear hf ho hp5 hu5 hk5 hps5)))
       have hz:=HF2.out.size
       obtain ⟨c0,c1,c2,c3⟩:=HP5.out.facts
       have f2:=HP5.out.frozen 2
       rw [show ((deep+1:Nat):Int)=(deep:Int)+1 from rfl] at c2
       clear c0 c1 c3
       go_upto_region 10 with (fail)
       have HP6:=Lib.hid (HP5.out.setD deep hnest)
       have HF6:=Lib.hid (HF5.out.setCell 2 (.int .i64 (deep:Int)))
       have HSZ:=Lib.hid (show (w5.setCell ⟨b,2,none⟩ (.int .i64 (deep:Int))).heap.size=w5.heap.size by simp)
       obtain ⟨hc1,hc2,hc3⟩:=count_at H1.out HD5.out HP5.out.lt
       have hfz5:=HF5.out.size
       clear c2 f2 HP5 HF5 HL
       generalize w5.setCell ⟨b,2,none⟩ (.int .i64 (deep:Int))=w6 at HP6 HF6 HSZ ⊢
       have hus5:us5.length=ns.length:=by rw [← HU5.out,List.length_map]
       have hlen5:(vs++us5).length=vs.length+us5.length:=List.length_append
       have HRT6:=Lib.hid (root_is HP6.out a (by omega))
       have hbl:=HP6.out.blt
       have hB7:Below w6.heap.size w6 (w6.alloc (.cells #[.int .i64 (a:Int)] 3)):=(Below.refl _ _).alloc (Nat.le_refl _) _
       have HP7:=Lib.hid (HP6.out.below hB7)
       have HF7:=Lib.hid (HF6.out.below hB7)
       have HA:=Lib.hid (show Calls Tryz.prog 109 #[.pointer (some ⟨b,0,none⟩),.agg #[.int .i64 8,.int .i64 0,.string ⟨#[]⟩,.string ⟨#[]⟩,.int .i64 0,.int .i64 0,.bool false,.bool false,.string ⟨#[]⟩,.int .i64 0,.int .i64 0,.bool false,.bool false,.slice (some ⟨w6.heap.size,0,none⟩) 1 1]] (w6.alloc (.cells #[.int .i64 (a:Int)] 3)) _ from add_any HP7.out ⟨{ Nd.zero with kind:=8,kids:=[(a:Int)] },some (w6.heap.size,1)⟩ (own_lit1 w6 (b+1) (a:Int) (by omega)) (by omega) (.slice (some ⟨w6.heap.size,0,none⟩) 1 1) rfl { Nd.zero with kind:=8,kids:=[(a:Int)] } rfl)
       clear hB7
       go_wp2_with (first
        | (go_at_call 110;((with_reducible refine HRT6.out.mono ?_);rintro e wn ⟨rfl,rfl⟩))
        | (go_at_call 109;((with_reducible refine HA.out.mono ?_);rintro e w8 ⟨h1,rfl,nv8,h3⟩;have HF8:=Lib.hid (HF7.out.trans h1);have HP8:=Lib.hid h3;clear h1 h3)))
       go_ret
       refine ⟨HF8.out,.inr ⟨_,_,_,HR.out,rfl,p5,nv8,us5++[⟨{ Nd.zero with kind:=8,kids:=[(a:Int)] },some (w6.heap.size,1)⟩],HD5.out, ?_, ?_,by rw [← List.append_assoc];exact HP8.out⟩⟩
       · rw [List.map_append,HU5.out];rfl
       · intro u hu j hj
         rcases List.mem_append.1 hu with hu | hu
         · exact Nat.le_trans hz (HK5.out u hu j hj)
         · rw [List.mem_singleton.1 hu] at hj
           have hj:some w6.heap.size=some j:=hj
           injection hj with hj
           have:=HSZ.out;omega
theorem ex_all:∀ F:Nat,EX F:=by
 intro F
 induction F using Nat.strongRecOn with
 | _ F ih =>
   intro n deep res w b tv ts p nv vs hn h hres
   match F,ih,hres with
   | 0,_,hres=>unfold exprP at hres;cases hres
   | f+1,ih,hres =>
   have IH:∀ g,g≤f→EX g:=fun g hg=>ih g (by omega)
   by_cases h3:n≤3
   · rw [exprP_succ,if_pos h3] at hres
     exact level_row b w _ (fun e w' ho=>ho.ret) n h3 fun w' hb=>(row_any f IH n h3 (h.below hb) res hres).mono fun e w'' ho=>Out.from (Fr.of b hb) ho
   · have e4:n=4:=by omega
     subst e4
     refine level_enter b 4 (by omega) w _ (fun e w' ho=>ho.ret) fun w' hb => ?_
     rw [lv4]
     exact (unary_any f IH (h.below hb) res hres).mono fun e w'' ho=>Out.from (Fr.of b hb) ho
def Ups:Nat→Nat→List Tk→Prop
 | p,q,[]=>p≤q
 | p,q,t :: ts=>∃ m:Nat,t.pos=(m:Int)∧p≤m∧m≤q∧Ups m q ts
theorem Ups.less {p p' q:Nat} (h:p'≤p):∀ {ts:List Tk},Ups p q ts→Ups p' q ts
 | [],k=>Nat.le_trans h k
 | _ :: _,⟨m,h1,h2,h3,h4⟩=>⟨m,h1,Nat.le_trans h h2,h3,h4⟩
theorem lexF_ups:∀ (f p:Nat) (l:List Int) (ts:List Tk),lexF f p l=some ts→Ups p (p+l.length) ts
 | f,p,[],ts,h=>by
   have h0:lexF f p []=some [Tk.zero.goto p]:=by unfold lexF;rfl
   rw [h0] at h;injection h with h;subst h
   exact ⟨p,rfl,Nat.le_refl _,by simp,by simp [Ups]⟩
 | 0,_,_ :: _,_,h=>by unfold lexF at h;cases h
 | f + 1,p,x :: l,ts,h=>by
   rw [lexF_cons] at h
   by_cases hx:x=32
   · rw [if_pos hx] at h
     have:=lexF_ups f (p+1) l ts h
     rw [show p+1+l.length=p+(x :: l).length by simp only [List.length_cons];omega] at this
     exact this.less (Nat.le_succ _)
   · rw [if_neg hx] at h
     cases hq:tokT (x :: l) with
     | none=>rw [hq] at h;cases h
     | some q =>
       obtain ⟨t0,n⟩:=q
       have hn:=tokT_le _ _ _ hq
       rw [hq] at h
       simp only [Option.map_eq_some_iff] at h
       obtain ⟨us,h1,rfl⟩:=h
       have:=lexF_ups f (p+n) ((x :: l).drop n) us h1
       rw [show p+n+((x :: l).drop n).length=p+(x :: l).length by rw [List.length_drop];omega] at this
       exact ⟨p,rfl,Nat.le_refl _,by omega,this.less (by omega)⟩
theorem lexL_ne (s:ByteArray) (ts:List Tk) (h:lexL (sb s)=some ts):ts≠[]:=by
 have key : ∀ (f p:Nat) (l:List Int) (ts:List Tk),lexF f p l=some ts→ts≠[]:=by
  intro f
  induction f with
  | zero =>
    intro p l ts h
    cases l with
    | nil => have h0:lexF 0 p []=some [Tk.zero.goto p]:=by unfold lexF;rfl
             rw [h0] at h;injection h with h;subst h;simp
    | cons x l=>unfold lexF at h;cases h
  | succ f ih =>
    intro p l ts h
    cases l with
    | nil => have h0:lexF (f+1) p []=some [Tk.zero.goto p]:=by unfold lexF;rfl
             rw [h0] at h;injection h with h;subst h;simp
    | cons x l =>
      rw [lexF_cons] at h
      by_cases hx:x=32
      · rw [if_pos hx] at h;exact ih _ _ _ h
      · rw [if_neg hx] at h
        split at h
        · cases h
        · simp only [Option.map_eq_some_iff] at h
          obtain ⟨us,_,rfl⟩:=h;simp
 exact key _ _ _ _ h
theorem lexL_len (s:ByteArray) (ts:List Tk) (h:lexL (sb s)=some ts):ts.length≤s.size+1:=by
 have key : ∀ (f p:Nat) (l:List Int) (ts:List Tk),lexF f p l=some ts→ts.length≤l.length+1:=by
  intro f
  induction f with
  | zero =>
    intro p l ts h
    cases l with
    | nil => have h0:lexF 0 p []=some [Tk.zero.goto p]:=by unfold lexF;rfl
             rw [h0] at h;injection h with h;subst h;simp
    | cons x l=>unfold lexF at h;cases h
  | succ f ih =>
    intro p l ts h
    cases l with
    | nil => have h0:lexF (f+1) p []=some [Tk.zero.goto p]:=by unfold lexF;rfl
             rw [h0] at h;injection h with h;subst h;simp
    | cons x l =>
      rw [lexF_cons] at h
      by_cases hx:x=32
      · rw [if_pos hx] at h;have:=ih _ _ _ h;simp only [List.length_cons];omega
      · rw [if_neg hx] at h
        cases hq:tokT (x :: l) with
        | none=>rw [hq] at h;cases h
        | some q =>
          obtain ⟨t0,n⟩:=q
          have hn:=tokT_le _ _ _ hq
          rw [hq] at h
          simp only [Option.map_eq_some_iff] at h
          obtain ⟨us,h1,rfl⟩:=h
          have:=ih _ _ _ h1
          rw [List.length_drop] at this
          simp only [List.length_cons] at this hn ⊢;omega
 have:=key _ _ _ _ h
 rw [length_sb] at this;exact this
theorem drew_below {w w':World} (h:Below w.heap.size w w') (n:Nat):Below w.heap.size w (w'.drewN n):=⟨h.os,h.tape,h.output,h.size,h.block⟩
theorem lex_over (s:ByteArray) (w:World) (hv:Vars w) (hs:300<s.size) :
 Calls Tryz.prog 57 #[.string s] w fun e w'=>Below w.heap.size w w'∧e = .returned (.tuple #[.slice none 0 0,.int .i64 4]):=by
 refine (lex_any s w hv).mono ?_
 rintro e w' ⟨hb,⟨_,rfl⟩ | ⟨h,_⟩ | ⟨h,_⟩⟩
 · exact ⟨hb,rfl⟩
 · omega
 · omega
theorem run_tok_kind (kd:Int) (l:Array Value) (hl:l[0]? = some (.int .i64 kd)) (w:World):Sem.run Tryz.prog (Instr.field 125 (.agg l) 0) w = .ok (.int .i64 kd) w:=by
 simp [Instr.field,run_underlying Tryz.underlying125,part,isAgg,run_underlying Tryz.underlying3,asAgg,hl,go_sem]
def PIs (s:ByteArray) (res:Except Int (List Nd)):Prop :=
 (300<s.size∧res = .error 4)∨(s.size≤300∧lexL (sb s)=none∧res = .error 5)∨(s.size≤300∧∃ ts f,lexL (sb s)=some ts∧parseP f ts=some res)
def Parsed (res:Except Int (List Nd)) (w:World) (e:Ending) (w':World):Prop :=
 Below w.heap.size w w'∧((∃ c,res = .error c∧e = .returned (.tuple #[.slice none 0 0,.int .i64 c])) ∨
  (∃ ns nv vs,res = .ok ns∧vs.map Nv.n=ns∧e = .returned (.tuple #[nv,.int .i64 0])∧NodV w' w.heap.size nv vs∧treeB ns=true))
theorem NodV.mono {w:World} {lo lo':Nat} {nv:Value} {vs:List Nv} (h:NodV w lo nv vs) (hl:lo'≤lo):NodV w lo' nv vs:=⟨h.1.mono hl,fun v hv=>(h.2 v hv).mono hl⟩
set_option maxRecDepth 100000 in
set_option maxHeartbeats 4000000 in
theorem parse_any (s:ByteArray) (w:World) (hv:Vars w) (ho:OpV w) (res:Except Int (List Nd)) (hp:PIs s res) :
 Calls Tryz.prog 38 #[.string s] w (Parsed res w):=by
 rcases hp with ⟨h1,rfl⟩ | ⟨h1,h2,rfl⟩ | ⟨h1,ts,f,h2,h3⟩
 · have HL:=Lib.hid (lex_over s w hv h1)
   clear hv ho h1
   go_enter Tryz.func38,Tryz.ntmps38
   go_wp2_with (go_at_call 57;((with_reducible refine HL.out.mono ?_);rintro e w1 ⟨hb,rfl⟩;have HB:=Lib.hid hb;clear hb))
   go_ret2
   exact ⟨HB.out,.inl ⟨4,rfl,rfl⟩⟩
 · have HL:=Lib.hid (lex_isnt s w hv h1 h2)
   clear hv ho h1 h2
   go_enter Tryz.func38,Tryz.ntmps38
   go_wp2_with (go_at_call 57;((with_reducible refine HL.out.mono ?_);rintro e w1 ⟨hb,rfl⟩;have HB:=Lib.hid hb;clear hb))
   go_ret2
   exact ⟨HB.out,.inl ⟨5,rfl,rfl⟩⟩
 · obtain ⟨hgood,hfit⟩:=lexL_good s ts h2
   have hlen:=lexL_len s ts h2
   have hne:=List.length_pos_iff.2 (lexL_ne s ts h2)
   have HL:=Lib.hid (lex_is s w hv h1 ts h2 hne)
   have hvl:=hv.lt
   have hol:=ho.lt
   have HOV:=Lib.hid ho
   have HFIT:=Lib.hid hfit
   have HTREE:=Lib.hid (fun ns (h:res = .ok ns)=>parse_tree (by rw [← h];exact h3) hgood)
   unfold parseP at h3
   have H3:=Lib.hid h3
   obtain ⟨nt,hnt⟩:∃ nt,ts.length=nt:=⟨_,rfl⟩
   have HNT:=Lib.hid hnt
   rw [hnt] at HL hlen hne
   clear hv ho h2 h3 hgood hfit hnt
   go_enter Tryz.func38,Tryz.ntmps38
   go_upto_region 5 with (go_at_call 57;((with_reducible refine HL.out.mono ?_);rintro e w1 ⟨hb,g1,cap1,rfl,hg0,hg1,ho⟩;have HO1:=Lib.hid ho;have HB:=Lib.hid hb;clear hb ho))
   have hB2:Below w1.heap.size w1 (w1.alloc (.cells #[.slice (some ⟨g1,0,none⟩) nt cap1,.int .i64 0,.int .i64 0,.slice none 0 0] 122)):=(Below.refl _ _).alloc (Nat.le_refl _) _
   have hC2:(w1.alloc (.cells #[.slice (some ⟨g1,0,none⟩) nt cap1,.int .i64 0,.int .i64 0,.slice none 0 0] 122)).heap[w1.heap.size]? = some (.cells #[.slice (some ⟨g1,0,none⟩) nt cap1,.int .i64 0,.int .i64 0,.slice none 0 0] 122):=(Go.MapKept.heap_alloc w1 _).1
   have HO2:=Lib.hid (HO1.out.below hB2 (Nat.le_refl _))
   have HOV2:=Lib.hid (HOV.out.below (HB.out.trans (hB2.mono HB.out.size)))
   have HZ1:=Lib.hid HB.out.size
   have HB2:=Lib.hid (HB.out.trans (hB2.mono HB.out.size))
   clear hB2 HB HL HO1 HOV
   generalize w1.alloc (.cells #[.slice (some ⟨g1,0,none⟩) nt cap1,.int .i64 0,.int .i64 0,.slice none 0 0] 122)=w2 at hC2 HO2 HOV2 HB2 ⊢
   obtain ⟨b,hb⟩:∃ b,w1.heap.size=b:=⟨_,rfl⟩
   rw [hb] at hC2 hg1 HZ1 ⊢
   have hz1:=HZ1.out
   have HP:=Lib.hid (show Ps w2 b (.slice (some ⟨g1,0,none⟩) nt cap1) ts 0 0 (.slice none 0 0) [] from
    ⟨hC2,⟨g1,cap1,by rw [HNT.out],hg1,HO2.out.mono (Nat.zero_le _)⟩,NodV.nil _ _,HOV2.out,by rw [HNT.out];exact hne,by omega,HFIT.out,by rw [HNT.out];omega,Nat.zero_le _,by omega⟩)
   clear hb hC2 HO2 HOV2 HFIT w1
   rcases bindR_some H3.out with ⟨c,g2,rfl⟩ | ⟨ns,a,r,g2,g3⟩
   · have HX:=Lib.hid (show Calls Tryz.prog 58 #[.pointer (some ⟨b,0,none⟩),.int .i64 0] w2 (Out (.error c) w2 b (.slice (some ⟨g1,0,none⟩) nt cap1) ts 0 []) from ex_all f 0 0 _ w2 b _ ts 0 _ [] (by omega) HP.out g2)
     clear g2 H3
     go_wp2_with (go_at_call 58;((with_reducible refine HX.out.mono ?_);intro e w5 ho;obtain ⟨hf,hc,rfl⟩:=ho.bad rfl;have HB5:=Lib.hid (HB2.out.trans (hf.toBelow hz1 HB2.out.size));have hc0:(c != 0)=true:=(by rw [bne_iff_ne];rcases hc with h | h <;> omega);clear hf hc ho))
     go_ret2
     exact ⟨HB5.out,.inl ⟨c,rfl,rfl⟩⟩
   · have HX:=Lib.hid (show Calls Tryz.prog 58 #[.pointer (some ⟨b,0,none⟩),.int .i64 0] w2 (Out (.ok (ns,a,r)) w2 b (.slice (some ⟨g1,0,none⟩) nt cap1) ts 0 []) from ex_all f 0 0 _ w2 b _ ts 0 _ [] (by omega) HP.out g2)
     have hns:=((told_all f).1 _ _ _ _ _ _ _ g2).2.2
     have H4:=Lib.hid g3
     clear g2 g3 H3
     go_upto_region 8 with (go_at_call 58;((with_reducible refine HX.out.mono ?_);intro e w5 ho;obtain ⟨hf,rfl,p5,nv5,us5,hp5,hu5,hk5,hps5⟩:=ho.good rfl;have HB5:=Lib.hid (HB2.out.trans (hf.toBelow hz1 HB2.out.size));have HP5:=Lib.hid hps5;have HD5:=Lib.hid hp5;have HU5:=Lib.hid hu5;clear hf ho hp5 hu5 hk5 hps5))
     obtain ⟨gt,ct,t, -,ht,hd, -⟩:=HP5.out.tok
     have h4:=H4.out
     rw [← HD5.out,hd] at h4
     have HTK:=Lib.hid (ptoken_any HP5.out t ht)
     obtain ⟨g5,cap5,rfl, -⟩:=Own.some HP5.out.nodes.1 (show 0<([]++us5).length by rw [List.nil_append, ← List.length_map (f:=Nv.n),HU5.out];omega)
     obtain ⟨kd,hkd⟩:∃ kd,t.kind=kd:=⟨_,rfl⟩
     rw [hkd] at HTK
     clear HX ht hd H4
     by_cases h0:t.kind=0
     · rw [show kindAt (t :: ts.drop (p5+1))=t.kind from rfl,if_pos h0] at h4
       injection h4 with h4
       have HR:=Lib.hid h4.symm
       have e0:(kd != 0)=false:=by rw [← hkd,h0];rfl
       clear h4 h0 hkd
       go_wp2_with (go_at_call 59;((with_reducible refine HTK.out.mono ?_);rintro e w6 ⟨rfl,h1⟩;have HB6:=Lib.hid (HB5.out.trans (h1.mono HB5.out.size));have HP6:=Lib.hid (HP5.out.below h1);obtain ⟨c0,c1,c2,c3⟩:=HP6.out.facts;have hfd:=run_tok_kind kd #[.int .i64 kd,.string t.text,.int .i64 t.num,.string t.sh,.int .i64 t.c,.int .i64 t.r,.bool t.ac,.bool t.ar,.int .i64 t.pos] rfl w6;clear h1))
       go_ret2
       exact ⟨HB6.out,.inr ⟨ns,_,[]++us5,HR.out,by rw [List.nil_append];exact HU5.out,rfl,HP6.out.nodes.mono (by omega),HTREE.out ns HR.out⟩⟩
     · rw [show kindAt (t :: ts.drop (p5+1))=t.kind from rfl,if_neg h0] at h4
       injection h4 with h4
       have HR:=Lib.hid h4.symm
       have e0:(kd != 0)=true:=by rw [bne_iff_ne, ← hkd];exact h0
       clear h4 h0 hkd
       go_wp2_with (go_at_call 59;((with_reducible refine HTK.out.mono ?_);rintro e w6 ⟨rfl,h1⟩;have HB6:=Lib.hid (HB5.out.trans (h1.mono HB5.out.size));have hfd:=run_tok_kind kd #[.int .i64 kd,.string t.text,.int .i64 t.num,.string t.sh,.int .i64 t.c,.int .i64 t.r,.bool t.ac,.bool t.ar,.int .i64 t.pos] rfl w6;clear h1))
       go_ret2
       exact ⟨HB6.out,.inl ⟨5,HR.out,rfl⟩⟩
theorem parse_ok (s:ByteArray) (w:World) (hv:Vars w) (ho:OpV w) (ns:List Nd) (hp:PIs s (.ok ns)) (hne:0<ns.length) :
 Calls Tryz.prog 38 #[.string s] w fun e w'=>Below w.heap.size w w'∧∃ g cap vs,e = .returned (.tuple #[.slice (some ⟨g,0,none⟩) ns.length cap,.int .i64 0])∧vs.map Nv.n=ns∧vs.length=ns.length∧NodV w' w.heap.size (.slice (some ⟨g,0,none⟩) ns.length cap) vs∧treeB ns=true:=by
 refine (parse_any s w hv ho _ hp).mono ?_
 rintro e w' ⟨hb,⟨c',h1,h2⟩ | ⟨ns',nv,vs,h1,h2,h3,h4,h5⟩⟩
 · cases h1
 · injection h1 with h1;subst h1
   have hl:vs.length=ns.length:=by rw [← h2,List.length_map]
   obtain ⟨g,cap,rfl, -⟩:=Own.some h4.1 (by omega)
   rw [hl] at h3 h4
   exact ⟨hb,g,cap,vs,h3,h2,hl,h4,h5⟩
theorem NodV.cell {w:World} {lo g n cap:Nat} {vs:List Nv} (h:NodV w lo (.slice (some ⟨g,0,none⟩) n cap) vs) (i:Nat) (v:Nv) (hi:vs[i]? = some v) (j:Nat) (hj:j<14):w.cell? ⟨g,i*14+j,none⟩=(nodA v.n v.kv).toList[j]? := by
 have hl:(nodA v.n v.kv).toList.length=14:=rfl
 have hu:(encNv.f v)[j]? = some ((nodA v.n v.kv).toList[j]'(by omega)):=List.getElem?_eq_getElem _
 have:=Own.cells h.1 (i*14+j) _ (by rw [encNv.at vs i j v hi hj];exact hu)
 rw [this];exact hu.symm
theorem sb_dec:∀ (n u:Nat),u<n→sb ⟨(Lib.decDigits u).toArray⟩=digL u:=by
 have sbm:∀ l:List UInt8,sb ⟨l.toArray⟩=l.map (fun b=>(b.toNat:Int)):=fun l=>rfl
 intro n
 induction n with
 | zero=>intro u h;omega
 | succ n ih =>
   intro u hu
   rw [sbm,Lib.decDigits]
   by_cases h:u<10
   · rw [dif_pos h,digL_small u h]
     simp only [List.map_cons,List.map_nil]
     rw [UInt8.toNat_ofNat_of_lt' (by show 48+u<256;omega)];congr 1
   · rw [dif_neg h,digL_more u h,List.map_append, ← sbm,ih (u / 10) (by omega)]
     simp only [List.map_cons,List.map_nil]
     rw [UInt8.toNat_ofNat_of_lt' (by show 48+u % 10<256;omega)];congr 1
theorem dec_str (u:Nat):(⟨(Lib.decDigits u).toArray⟩:ByteArray)=strOfNums (digL u):=by
 rw [← str_sb ⟨(Lib.decDigits u).toArray⟩,sb_dec (u+1) u (by omega)]
def Tab (w : World) : Prop := Lib.TabIs Tryz.prog w "internal/strconv.uint64pow10" .u64 Lib.pow10Tab
theorem gTab : Tryz.prog.globalNamed "internal/strconv.uint64pow10" = some 5 := by kernel_rfl
theorem Tab.below {w w':World} (h:Tab w) (hb:Below w.heap.size w w'):Tab w':=by
 unfold Tab Lib.TabIs World.var? at h ⊢
 rw [gTab] at h ⊢
 simp only [Option.bind_some] at h ⊢
 rw [hb.block _ ?_]
 · exact h
 · rcases Nat.lt_or_ge 5 w.heap.size with h' | h'
   · exact h'
   · rw [Array.getElem?_eq_none h'] at h;cases h
theorem below_grow (w:World) (k:Nat) (os:Array Obj):Below w.heap.size w (Sort.grow (w.drewN k) os):=by
 refine ⟨rfl,rfl,rfl, ?_, ?_⟩
 · show w.heap.size≤(w.heap++os).size
   simp
 · intro j hj
   show (w.heap++os)[j]? = w.heap[j]?
   rw [Array.getElem?_append_left hj]
theorem itoa_any (n:Nat) (_h1:n≤9223372036854775807) (w:World) (ht:Tab w) :
 Calls Tryz.prog 74 #[.int .i64 (n:Int)] w fun e w'=>e = .returned (.string (strOfNums (digL n)))∧Below w.heap.size w w':=by
 refine (Tryz.strconv_Itoa (n:Int) (by omega) (by omega) w ht).mono ?_
 rintro e w' ⟨rfl,k,os,rfl⟩
 refine ⟨?_,below_grow w k os⟩
 have:Lib.itoa (n:Int)=Lib.decDigits n:=by unfold Lib.itoa;rw [if_neg (by omega)];rfl
 rw [this,dec_str]
theorem natAbs_digits (n:Int) (h:n<0):(⟨(Lib.itoa n).toArray⟩:ByteArray)=strOfNums (decL n):=by
 have sbm:∀ l:List UInt8,sb ⟨l.toArray⟩=l.map (fun b=>(b.toNat:Int)):=fun l=>rfl
 rw [← str_sb ⟨(Lib.itoa n).toArray⟩]
 congr 1
 unfold Lib.itoa decL
 rw [if_pos h,if_pos h,sbm,List.map_cons, ← sbm,sb_dec (n.natAbs+1) _ (by omega)];rfl
theorem itoaZ_any (n:Int) (_h0 : -9223372036854775808≤n) (_h1:n≤9223372036854775807) (w:World) (ht:Tab w) :
 Calls Tryz.prog 74 #[.int .i64 n] w fun e w'=>e = .returned (.string (strOfNums (decL n)))∧Below w.heap.size w w':=by
 by_cases h:n<0
 · refine (Tryz.strconv_Itoa n (by omega) (by omega) w ht).mono ?_
   rintro e w' ⟨rfl,k,os,rfl⟩
   exact ⟨by rw [natAbs_digits n h],below_grow w k os⟩
 · obtain ⟨m,rfl⟩:∃ m:Nat,n=m:=⟨n.toNat,by omega⟩
   have hd:decL (m:Int)=digL m:=by unfold decL;rw [if_neg (by omega)];rfl
   rw [hd];exact itoa_any m (by omega) w ht
set_option maxRecDepth 100000 in
set_option maxHeartbeats 400000 in
theorem may_any (s:ByteArray) (c r:Int) (ac ar:Bool) (w:World) (_hs:s.size≤1000000) :
 Calls Tryz.prog 150 #[.agg #[.string s,.int .i64 c,.int .i64 r,.bool ac,.bool ar]] w fun e w'=>e = .returned (.bool (mayL (sb s) c r))∧Below w.heap.size w w':=by
 by_cases h0:s.size=0
 · have:=sb_nil s h0
   subst this
   have hm:mayL (sb ⟨#[]⟩) c r=decide (0≤c∧c≤701∧0≤r∧r≤998):=by unfold mayL;rw [show decide (sb ⟨#[]⟩=[])=true from by decide,Bool.true_or,Bool.true_and]
   have HM:=Lib.hid hm;clear hm
   go_enter Tryz.func150,Tryz.ntmps150
   go_wp2
   all_goals go_ret
   all_goals exact ⟨ret_bool (by rw [HM.out];first | (symm;rw [decide_eq_true_iff];omega) | (symm;rw [decide_eq_false_iff_not];omega) | (rw [decide_eq_decide];omega)),(Below.refl _ _).alloc (Nat.le_refl _) _⟩
 · have hne:=text_ne0 s h0
   have hne2:s.toList.isEmpty=false:=by cases hq:s.toList with | nil=>exact absurd hq hne | cons a l=>rfl
   have hm:mayL (sb s) c r=(nameL (sb s)&&decide (0≤c∧c≤701∧0≤r∧r≤998)):=by
    unfold mayL;rw [decide_eq_false (by intro h;have:=length_sb s;rw [h] at this;exact h0 this.symm),Bool.false_or]
   have HM:=Lib.hid hm;clear hm h0
   by_cases hn:nameL (sb s)=true
   · go_enter Tryz.func150,Tryz.ntmps150
     go_wp2_with (first
      | (go_at_call 21;((with_reducible refine (name_any _ _ ?_).mono ?_);(first | omega | skip);rintro e w' ⟨rfl,rfl⟩)))
     all_goals go_ret
     all_goals exact ⟨ret_bool (by rw [HM.out,hn,Bool.true_and];first | (symm;rw [decide_eq_true_iff];omega) | (symm;rw [decide_eq_false_iff_not];omega) | (rw [decide_eq_decide];omega)),(Below.refl _ _).alloc (Nat.le_refl _) _⟩
   · have hn':nameL (sb s)=false:=by simpa using hn
     clear hn
     go_enter Tryz.func150,Tryz.ntmps150
     go_wp2_with (first
      | (go_at_call 21;((with_reducible refine (name_any _ _ ?_).mono ?_);(first | omega | skip);rintro e w' ⟨rfl,rfl⟩)))
     all_goals go_ret
     all_goals exact ⟨ret_bool (by rw [HM.out,hn',Bool.false_and]),(Below.refl _ _).alloc (Nat.le_refl _) _⟩
theorem name_lex (s:ByteArray) (h:calledL (sb s)=true) (hr:readS s=none):∃ t ts,lexL (sb s)=some (t :: ts)∧t.kind=3∧t.text=s:=by
 have hc:=h
 unfold calledL at hc
 rw [Bool.and_eq_true,Bool.and_eq_true,decide_eq_true_iff,decide_eq_true_iff] at hc
 obtain ⟨c1,c2,c3⟩:=hc
 have hs:=str_sb s
 cases hq:sb s with
 | nil=>rw [hq] at c2;simp at c2
 | cons x l =>
   rw [hq] at c1 c3 hs h
   have hall:∀ y∈x :: l,isWord y=true:=by
    intro y hy
    have:=c1 y hy
    rw [Bool.or_eq_true] at this
    rcases this with g | g
    · rw [isWord_beg,isBeg_cap g];rfl
    · rw [isWord_beg,g];simp
   have hx:isCap x=true:=by simpa using c3
   have hxr:65≤x∧x≤90:=by unfold isCap at hx;rw [decide_eq_true_iff] at hx;omega
   have h1:¬ isNum x=true:=by unfold isNum;rw [decide_eq_true_iff];omega
   have hl:isLet x=true:=by unfold isLet;rw [decide_eq_true_iff];omega
   have ht:(x :: l).takeWhile isWord=x :: l:=by
    have:=take_part isWord (x :: l) [] hall (fun y hy=>by simp at hy)
    rw [List.append_nil] at this;exact this
   have htok:tokT (x :: l)=some ({ Tk.zero with kind:=3,text:=s },(x :: l).length):=by
    rw [tokT_cons,if_neg h1,if_neg (by omega),if_neg (by omega),if_pos (.inl hl)]
    unfold wordT
    rw [ht,hs,hr]
    simp only
    rw [if_pos h]
   refine ⟨({ Tk.zero with kind:=3,text:=s }:Tk).goto 0,[Tk.zero.goto (0+(x :: l).length)], ?_,rfl,rfl⟩
   unfold lexL
   rw [List.length_cons,lexF_cons,if_neg (by omega),htok]
   simp only
   rw [List.drop_length]
   have:lexF l.length (0+(x :: l).length) []=some [Tk.zero.goto (0+(x :: l).length)]:=by unfold lexF;rfl
   rw [this];rfl
theorem callB_eq (s:ByteArray):callB s=((calledL (sb s)&&(readS s).isNone)&&(decide (¬ s=⟨#[84,82,85,69]⟩)&&decide (¬ s=⟨#[70,65,76,83,69]⟩))):=by unfold callB;rw [Bool.and_assoc]
theorem callB_bad (s:ByteArray) (h:∀ t ts,lexL (sb s)=some (t :: ts)→¬ (t.kind=3∧t.text=s)):callB s=false:=by
 rw [callB_eq]
 cases hc:calledL (sb s)
 · rfl
 · cases hr:readS s with
   | some d=>rfl
   | none =>
     obtain ⟨t,ts,h1,h2,h3⟩:=name_lex s hc hr
     exact absurd ⟨h2,h3⟩ (h t ts h1)
theorem callB_big (s:ByteArray) (h:12<s.size):callB s=false:=by
 rw [callB_eq]
 have:calledL (sb s)=false:=by
  unfold calledL
  rw [decide_eq_false (show ¬ (1≤(sb s).length∧(sb s).length≤12) by rw [length_sb];omega),Bool.false_and,Bool.and_false]
 rw [this];rfl
set_option maxRecDepth 100000 in
set_option maxHeartbeats 2000000 in
theorem isName5_any (s:ByteArray) (w:World) (hv:Vars w):Calls Tryz.prog 151 #[.string s] w fun e w'=>e = .returned (.bool (callB s))∧Below w.heap.size w w':=by
 have bad:∀ c:Int,(c != 0)=true→callB s=false→(Calls Tryz.prog 57 #[.string s] w fun e w'=>Below w.heap.size w w'∧e = .returned (.tuple #[.slice none 0 0,.int .i64 c])) →
  Calls Tryz.prog 151 #[.string s] w fun e w'=>e = .returned (.bool (callB s))∧Below w.heap.size w w':=by
  intro c hc hb hl
  have HL:=Lib.hid hl;have HB0:=Lib.hid hb
  have hc2:(c == 0)=false:=by rw [beq_eq_false_iff_ne];exact bne_iff_ne.1 hc
  clear hl hb
  go_enter Tryz.func151,Tryz.ntmps151
  go_wp2_with (go_at_call 57;((with_reducible refine HL.out.mono ?_);rintro e w1 ⟨hb,rfl⟩;have HB:=Lib.hid hb;clear hb))
  go_ret
  exact ⟨by rw [HB0.out] <;> rfl,HB.out⟩
 by_cases hbig:300<s.size
 · exact bad 4 rfl (callB_big s (by omega)) (lex_over s w hv hbig)
 · cases hl : lexL (sb s) with
   | none=>exact bad 5 rfl (callB_bad s (fun t ts h=>by rw [hl] at h;cases h)) (lex_isnt s w hv (by omega) hl)
   | some ts =>
     have hne:=lexL_ne s ts hl
     obtain ⟨hgood,_⟩:=lexL_good s ts hl
     match ts,hne,hl,hgood with
     | t :: tl,_,hl,hgood =>
     have HX:=Lib.hid (lex_is s w hv (by omega) (t :: tl) hl (by simp))
     have hg:=hgood t (by simp)
     obtain ⟨kd,hkd⟩:∃ kd,t.kind=kd:=⟨_,rfl⟩
     obtain ⟨tx,htx⟩:∃ tx,t.text=tx:=⟨_,rfl⟩
     have HC:=Lib.hid (fun h=>callB_bad s (fun t' ts' h'=>by rw [hl] at h';injection h' with h';injection h' with h1 h2;subst h1;exact h))
     have HG:=Lib.hid (show kd=3→tx=s→callB s=(decide (¬ s=⟨#[84,82,85,69]⟩)&&decide (¬ s=⟨#[70,65,76,83,69]⟩)) from by
      intro h1 h2
      obtain ⟨g1,g2⟩:=hg.name (by rw [hkd,h1])
      rw [htx,h2] at g1 g2
      rw [callB_eq,g1,g2];rfl)
     have HK:=Lib.hid hkd;have HT:=Lib.hid htx
     obtain ⟨n,hn⟩:∃ n,(t :: tl).length=n:=⟨_,rfl⟩
     have hn1:0<n:=by rw [← hn];simp
     rw [hn] at HX
     have q1:=word_eq s ⟨#[84,82,85,69]⟩
     have q2:=word_eq s ⟨#[70,65,76,83,69]⟩
     rw [list_true] at q1
     rw [list_false] at q2
     clear hl hgood hg hkd htx hn hne bad
     go_enter Tryz.func151,Tryz.ntmps151
     go_upto_region 2 with (go_at_call 57;((with_reducible refine HX.out.mono ?_);rintro e w1 ⟨hb,g,cap,rfl,hg0,hg1,ho⟩;have HB:=Lib.hid hb;have k0:w1.cell? ⟨g,0,none⟩=some (.int .i64 kd):=((OwnT.cell ho 0 t rfl 0 (by omega)).trans (by show some (Value.int .i64 t.kind)=_;rw [HK.out]));have k1:w1.cell? ⟨g,1,none⟩=some (.string tx):=((OwnT.cell ho 0 t rfl 1 (by omega)).trans (by show some (Value.string t.text)=_;rw [HT.out]));clear hb ho))
     have hni:(0:Int)<(n:Int):=by omega
     by_cases h3:kd=3
     · have e3:(kd == 3)=true:=beq_iff_eq.2 h3
       by_cases hs:tx=s
       · have HR:=Lib.hid (HG.out h3 hs)
         have q3:(tx.toList == s.toList)=true:=by rw [hs];simp
         clear h3 hs HC HG HK HT HX
         by_cases h1:s=⟨#[84,82,85,69]⟩
         · rw [decide_eq_true h1] at q1
           rw [decide_eq_false (show ¬ ¬ s=⟨#[84,82,85,69]⟩ from fun h=>h h1),Bool.false_and] at HR
           have q1n:(s.toList != [84,82,85,69])=false:=by rw [bne,q1];rfl
           clear h1
           go_wp2_with fail
           go_ret
           exact ⟨by rw [HR.out] <;> rfl,HB.out⟩
         · rw [decide_eq_false h1] at q1
           rw [decide_eq_true h1,Bool.true_and] at HR
           have q1n:(s.toList != [84,82,85,69])=true:=by rw [bne,q1];rfl
           clear h1
           by_cases h2:s=⟨#[70,65,76,83,69]⟩
           · rw [decide_eq_true h2] at q2
             rw [decide_eq_false (show ¬ ¬ s=⟨#[70,65,76,83,69]⟩ from fun h=>h h2)] at HR
             have q2n:(s.toList != [70,65,76,83,69])=false:=by rw [bne,q2];rfl
             clear h2
             go_wp2_with fail
             go_ret
             exact ⟨by rw [HR.out] <;> rfl,HB.out⟩
           · rw [decide_eq_false h2] at q2
             rw [decide_eq_true h2] at HR
             have q2n:(s.toList != [70,65,76,83,69])=true:=by rw [bne,q2];rfl
             clear h2
             go_wp2_with fail
             go_ret
             exact ⟨by rw [HR.out] <;> rfl,HB.out⟩
       · have HR:=Lib.hid (HC.out (fun h=>hs (by rw [← HT.out];exact h.2)))
         have q3:(tx.toList == s.toList)=false:=beq_eq_false_iff_ne.2 (text_ne _ _ hs)
         clear h3 hs HC HG HK HT HX
         go_wp2_with fail
         go_ret
         exact ⟨by rw [HR.out] <;> rfl,HB.out⟩
     · have HR:=Lib.hid (HC.out (fun h=>h3 (by rw [← HK.out];exact h.1)))
       have e3:(kd == 3)=false:=beq_eq_false_iff_ne.2 h3
       clear h3 HC HG HK HT HX
       go_wp2_with fail
       go_ret
       exact ⟨by rw [HR.out] <;> rfl,HB.out⟩
theorem printB_bad (s:ByteArray) (k:Nat) (h:k<s.size) (hx:((s[k].toNat:Nat):Int)<32):printB (sb s)=false:=by
 unfold printB;rw [decide_eq_false_iff_not];intro hall
 exact hall _ (List.mem_of_getElem? (sb_at s k h)) hx
theorem printB_all (s:ByteArray) (h:∀ (j:Nat) (hj:j<s.size),¬ ((s[j].toNat:Nat):Int)<32):printB (sb s)=true:=by
 unfold printB;rw [decide_eq_true_iff]
 intro x hx
 obtain ⟨j,hj,rfl⟩:=List.mem_iff_getElem.1 hx
 rw [length_sb] at hj
 have:=sb_at s j hj
 rw [List.getElem?_eq_getElem (by rw [length_sb];exact hj)] at this
 rw [Option.some.inj this];exact h j hj
set_option maxRecDepth 100000 in
set_option maxHeartbeats 800000 in
theorem isText_any (s:ByteArray) (w:World) (_hs:s.size≤1000000):Calls Tryz.prog 149 #[.string s] w fun e w'=>e = .returned (.bool (printB (sb s)))∧w=w':=by
 go_enter Tryz.func149,Tryz.ntmps149
 go_wp2_with fail
 go_loopw [6] (fun i wr=>∃ k:Nat,k≤s.size∧i = .int .i64 k∧Hid (∀ (j:Nat) (hj:j<s.size),j<k→¬ ((s[j].toNat:Nat):Int)<32)∧w=wr)
  (fun i _=>s.size - (intOf i).toNat)
 case atStart=>exact ⟨0,by omega,rfl,Lib.hid (by intro j _ hj;omega),rfl⟩
 case round =>
  obtain ⟨k,hk,rfl,HG,rfl⟩:=hrel
  by_cases hlt:k<s.size
  · have hki:(k:Int)<(s.size:Int):=by omega
    obtain ⟨a,ha⟩:∃ a:Int,(s[k].toNat:Int)=a:=⟨_,rfl⟩
    have ha1:0≤a∧a≤255:=by have:=s[k].toNat_lt;omega
    have HA:=Lib.hid ha
    by_cases h32:a<32
    · have HB:=Lib.hid (printB_bad s k hlt (by rw [ha];exact h32))
      go_wp2_with fail
      go_ret
      exact ⟨by rw [HB.out] <;> rfl,rfl⟩
    · go_wp2_with fail
      go_roundw
      case rel =>
       refine ⟨k+1,by omega,by go_num,Lib.hid ?_,by first | rfl | trivial⟩
       intro j hj hjk
       by_cases e:j=k
       · subst e;rw [HA.out];exact h32
       · exact HG.out j hj (by omega)
      case measure=>simp [intOf];omega
  · have hki:¬ (k:Int)<(s.size:Int):=by omega
    have HB:=Lib.hid (printB_all s (fun j hj=>HG.out j hj (by omega)))
    go_wp2_with fail
    go_ret
    exact ⟨by rw [HB.out] <;> rfl,rfl⟩
def twoB (k:Int):Bool:=decide (9≤k∧k≤19)
set_option maxHeartbeats 400000 in
theorem isOfTwo_any (k:Int) (w:World):Calls Tryz.prog 152 #[.int .i64 k] w fun e w'=>e = .returned (.bool (twoB k))∧w=w':=by
 go_enter Tryz.func152,Tryz.ntmps152
 by_cases h1:9≤k
 · by_cases h2:k≤19
   · go_wp2
     go_ret
     exact ⟨ret_bool (by unfold twoB;symm;rw [decide_eq_true_iff];exact ⟨h1,h2⟩),rfl⟩
   · go_wp2
     go_ret
     exact ⟨ret_bool (by unfold twoB;symm;rw [decide_eq_false_iff_not];omega),rfl⟩
 · go_wp2
   go_ret
   exact ⟨ret_bool (by unfold twoB;symm;rw [decide_eq_false_iff_not];omega),rfl⟩
def hkB (kind:Int) (m:Nat):Bool:=if kind=7 then true else if kind=8 then decide (m=1) else if twoB kind=true then decide (m=2) else decide (m=0)
set_option maxRecDepth 100000 in
set_option maxHeartbeats 1600000 in
theorem hasKids_any (n:Nd) (A:Option Addr) (m c:Nat) (hm:m≤maxLen) (w:World):Calls Tryz.prog 116 #[.agg #[.int .i64 n.kind,.int .i64 n.num,.string n.text,.string n.ref.sh,.int .i64 n.ref.c,.int .i64 n.ref.r,.bool n.ref.ac,.bool n.ref.ar,.string n.zto.sh,.int .i64 n.zto.c,.int .i64 n.zto.r,.bool n.zto.ac,.bool n.zto.ar,.slice A m c]] w fun e w'=>e = .returned (.bool (hkB n.kind m))∧Below w.heap.size w w':=by
 have hx:NdAt (w.alloc (.cells #[.int .i64 n.kind,.int .i64 n.num,.string n.text,.string n.ref.sh,.int .i64 n.ref.c,.int .i64 n.ref.r,.bool n.ref.ac,.bool n.ref.ar,.string n.zto.sh,.int .i64 n.zto.c,.int .i64 n.zto.r,.bool n.zto.ac,.bool n.zto.ar,.slice A m c] 100)) w.heap.size n (.slice A m c):=NdAt.new w n _
 have HB:=Lib.hid ((Below.refl w.heap.size w).alloc (Nat.le_refl _) (.cells #[.int .i64 n.kind,.int .i64 n.num,.string n.text,.string n.ref.sh,.int .i64 n.ref.c,.int .i64 n.ref.r,.bool n.ref.ac,.bool n.ref.ar,.string n.zto.sh,.int .i64 n.zto.c,.int .i64 n.zto.r,.bool n.zto.ac,.bool n.zto.ar,.slice A m c] 100))
 go_enter Tryz.func116,Tryz.ntmps116
 go_upto_region 1 with (fail)
 generalize w.alloc (.cells #[.int .i64 n.kind,.int .i64 n.num,.string n.text,.string n.ref.sh,.int .i64 n.ref.c,.int .i64 n.ref.r,.bool n.ref.ac,.bool n.ref.ar,.string n.zto.sh,.int .i64 n.zto.c,.int .i64 n.zto.r,.bool n.zto.ac,.bool n.zto.ar,.slice A m c] 100)=w1 at hx HB ⊢
 obtain ⟨x0,x1,x2,x3,x4,x5,x6,x7,x8,x9,x10,x11,x12,x13⟩:=hx.cells
 clear hx
 obtain ⟨kd,hkd⟩:∃ kd,n.kind=kd:=⟨_,rfl⟩
 rw [hkd] at x0
 have HKD:=Lib.hid hkd;clear hkd
 by_cases h7:kd=7
 · have e7:(kd == 7)=true:=beq_iff_eq.2 h7
   have HR:=Lib.hid (show hkB kd m=true by unfold hkB;rw [if_pos h7])
   clear h7
   go_wp2_with fail
   go_ret
   exact ⟨by rw [HKD.out,HR.out] <;> rfl,HB.out⟩
 have e7:(kd == 7)=false:=beq_eq_false_iff_ne.2 h7
 by_cases h8:kd=8
 · have e8:(kd == 8)=true:=beq_iff_eq.2 h8
   have HR:=Lib.hid (show hkB kd m=decide (m=1) by unfold hkB;rw [if_neg h7,if_pos h8])
   clear h7 h8
   by_cases hm1:m=1
   · subst hm1
     go_wp2_with fail
     go_ret
     exact ⟨by rw [HKD.out,HR.out] <;> rfl,HB.out⟩
   · have em:((m:Int) == 1)=false:=by rw [beq_eq_false_iff_ne];omega
     rw [decide_eq_false hm1] at HR
     go_wp2_with fail
     go_ret
     exact ⟨by rw [HKD.out,HR.out];first | rfl | (simp;omega),HB.out⟩
 have e8:(kd == 8)=false:=beq_eq_false_iff_ne.2 h8
 cases ht:twoB kd
 · have HR:=Lib.hid (show hkB kd m=decide (m=0) by unfold hkB;rw [if_neg h7,if_neg h8,ht,if_neg (by decide)])
   have HT:=isOfTwo_any kd
   rw [ht] at HT
   have HT:=Lib.hid HT
   clear h7 h8 ht
   by_cases hm1:m=0
   · subst hm1
     go_wp2_with (go_at_call 152;((with_reducible refine (HT.out _).mono ?_);rintro e w2 ⟨rfl,rfl⟩))
     go_ret
     exact ⟨by rw [HKD.out,HR.out] <;> rfl,HB.out⟩
   · have em:((m:Int) == 0)=false:=by rw [beq_eq_false_iff_ne];omega
     rw [decide_eq_false hm1] at HR
     go_wp2_with (go_at_call 152;((with_reducible refine (HT.out _).mono ?_);rintro e w2 ⟨rfl,rfl⟩))
     go_ret
     exact ⟨by rw [HKD.out,HR.out];first | rfl | (simp;omega),HB.out⟩
 · have HR:=Lib.hid (show hkB kd m=decide (m=2) by unfold hkB;rw [if_neg h7,if_neg h8,ht,if_pos rfl])
   have HT:=isOfTwo_any kd
   rw [ht] at HT
   have HT:=Lib.hid HT
   clear h7 h8 ht
   by_cases hm1:m=2
   · subst hm1
     go_wp2_with (go_at_call 152;((with_reducible refine (HT.out _).mono ?_);rintro e w2 ⟨rfl,rfl⟩))
     go_ret
     exact ⟨by rw [HKD.out,HR.out] <;> rfl,HB.out⟩
   · have em:((m:Int) == 2)=false:=by rw [beq_eq_false_iff_ne];omega
     rw [decide_eq_false hm1] at HR
     go_wp2_with (go_at_call 152;((with_reducible refine (HT.out _).mono ?_);rintro e w2 ⟨rfl,rfl⟩))
     go_ret
     exact ⟨by rw [HKD.out,HR.out];first | rfl | (simp;omega),HB.out⟩
def namedN (n:Nd):Nd :=
 if n.kind=1 then { Nd.zero with num:=n.num } else if n.kind=2 then { Nd.zero with text:=n.text } else if n.kind=3 then { Nd.zero with num:=n.num }
 else if n.kind=5 then { Nd.zero with ref:=n.ref } else if n.kind=6 then ⟨0,0,⟨#[]⟩,n.ref,n.zto,[]⟩ else if n.kind=7 then { Nd.zero with text:=n.text } else Nd.zero
def okF (n:Nd):Bool :=
 if n.kind=1 then decide (0≤n.num) else if n.kind=2 then printB (sb n.text) else if n.kind=3 then decide (n.num=0∨n.num=1)
 else if n.kind=5 then mayRf n.ref else if n.kind=6 then mayRf n.ref&&(mayRf n.zto&&spanB n.ref n.zto) else if n.kind=7 then callB n.text else decide (n.kind=4∨n.kind=8)||twoB n.kind
theorem res_fields:Tryz.f115.results=#[.cell 2 100,.tmp 3]:=by kernel_rfl
theorem NdAt.load {w:World} {b:Nat} {n:Nd} {k:Value} (h:NdAt w b n k):(loadVar 100 ⟨b,0,none⟩).run Tryz.prog w = .ok (.agg (nodA n k)) w :=
 run_loadVar_row w b 100 100 _ _ _ h Tryz.underlying100 rfl nod_size
theorem out_nod {w:World} {b:Nat} {n:Nd} {k:Value} (h:NdAt w b n k) (fn:Func) (tmps:Array Value) (ok:Bool) (p u:Tmp) (hf:fn.results=#[.cell p 100,.tmp u]) (hp:tmps.getD p undef = .pointer (some ⟨b,0,none⟩)) (hu:tmps.getD u undef = .bool ok) :
 (results fn tmps).run Tryz.prog w = .ok (.tuple #[.agg (nodA n k),.bool ok]) w:=by
 rw [results_cell_tmp hf,hp,hu]
 simp [asAddr,h.load,Result.andThen]
abbrev zNod:Array Value:=#[.int .i64 0,.int .i64 0,.string ⟨#[]⟩,.string ⟨#[]⟩,.int .i64 0,.int .i64 0,.bool false,.bool false,.string ⟨#[]⟩,.int .i64 0,.int .i64 0,.bool false,.bool false,.slice none 0 0]
theorem NdAt.drew {w:World} {b:Nat} {n:Nd} {k:Value} (h:NdAt w b n k):NdAt w.drew b n k:=h
theorem NdAt.frozen {w:World} {b:Nat} {n:Nd} {k:Value} (h:NdAt w b n k) (j:Nat):w.frozen? ⟨b,j,none⟩=false:=frozen_of_row w b j _ _ h
theorem row14 (w:World) (b:Nat) (t:TypeId) (u0 u1 u2 u3 u4 u5 u6 u7 u8 u9 u10 u11 u12 u13 v0 v1 v2 v3 v4 v5 v6 v7 v8 v9 v10 v11 v12 v13:Value) (h:w.heap[b]? = some (.cells #[u0,u1,u2,u3,u4,u5,u6,u7,u8,u9,u10,u11,u12,u13] t)) :
 ((((((((((((((w.setCell ⟨b,0,none⟩ v0).setCell ⟨b,1,none⟩ v1).setCell ⟨b,2,none⟩ v2).setCell ⟨b,3,none⟩ v3).setCell ⟨b,4,none⟩ v4).setCell ⟨b,5,none⟩ v5).setCell ⟨b,6,none⟩ v6).setCell ⟨b,7,none⟩ v7).setCell ⟨b,8,none⟩ v8).setCell ⟨b,9,none⟩ v9).setCell ⟨b,10,none⟩ v10).setCell ⟨b,11,none⟩ v11).setCell ⟨b,12,none⟩ v12).setCell ⟨b,13,none⟩ v13).heap[b]? = some (.cells #[v0,v1,v2,v3,v4,v5,v6,v7,v8,v9,v10,v11,v12,v13] t):=by
 have h0:(w.setCell ⟨b,0,none⟩ v0).heap[b]? = some (.cells #[v0,u1,u2,u3,u4,u5,u6,u7,u8,u9,u10,u11,u12,u13] t):=by rw [heap_setCell_same _ b 0 _ _ _ h];rfl
 have h1:((w.setCell ⟨b,0,none⟩ v0).setCell ⟨b,1,none⟩ v1).heap[b]? = some (.cells #[v0,v1,u2,u3,u4,u5,u6,u7,u8,u9,u10,u11,u12,u13] t):=by rw [heap_setCell_same _ b 1 _ _ _ h0];rfl
 have h2:(((w.setCell ⟨b,0,none⟩ v0).setCell ⟨b,1,none⟩ v1).setCell ⟨b,2,none⟩ v2).heap[b]? = some (.cells #[v0,v1,v2,u3,u4,u5,u6,u7,u8,u9,u10,u11,u12,u13] t):=by rw [heap_setCell_same _ b 2 _ _ _ h1];rfl
 have h3:((((w.setCell ⟨b,0,none⟩ v0).setCell ⟨b,1,none⟩ v1).setCell ⟨b,2,none⟩ v2).setCell ⟨b,3,none⟩ v3).heap[b]? = some (.cells #[v0,v1,v2,v3,u4,u5,u6,u7,u8,u9,u10,u11,u12,u13] t):=by rw [heap_setCell_same _ b 3 _ _ _ h2];rfl
 have h4:(((((w.setCell ⟨b,0,none⟩ v0).setCell ⟨b,1,none⟩ v1).setCell ⟨b,2,none⟩ v2).setCell ⟨b,3,none⟩ v3).setCell ⟨b,4,none⟩ v4).heap[b]? = some (.cells #[v0,v1,v2,v3,v4,u5,u6,u7,u8,u9,u10,u11,u12,u13] t):=by rw [heap_setCell_same _ b 4 _ _ _ h3];rfl
 have h5:((((((w.setCell ⟨b,0,none⟩ v0).setCell ⟨b,1,none⟩ v1).setCell ⟨b,2,none⟩ v2).setCell ⟨b,3,none⟩ v3).setCell ⟨b,4,none⟩ v4).setCell ⟨b,5,none⟩ v5).heap[b]? = some (.cells #[v0,v1,v2,v3,v4,v5,u6,u7,u8,u9,u10,u11,u12,u13] t):=by rw [heap_setCell_same _ b 5 _ _ _ h4];rfl
 have h6:(((((((w.setCell ⟨b,0,none⟩ v0).setCell ⟨b,1,none⟩ v1).setCell ⟨b,2,none⟩ v2).setCell ⟨b,3,none⟩ v3).setCell ⟨b,4,none⟩ v4).setCell ⟨b,5,none⟩ v5).setCell ⟨b,6,none⟩ v6).heap[b]? = some (.cells #[v0,v1,v2,v3,v4,v5,v6,u7,u8,u9,u10,u11,u12,u13] t):=by rw [heap_setCell_same _ b 6 _ _ _ h5];rfl
 have h7:((((((((w.setCell ⟨b,0,none⟩ v0).setCell ⟨b,1,none⟩ v1).setCell ⟨b,2,none⟩ v2).setCell ⟨b,3,none⟩ v3).setCell ⟨b,4,none⟩ v4).setCell ⟨b,5,none⟩ v5).setCell ⟨b,6,none⟩ v6).setCell ⟨b,7,none⟩ v7).heap[b]? = some (.cells #[v0,v1,v2,v3,v4,v5,v6,v7,u8,u9,u10,u11,u12,u13] t):=by rw [heap_setCell_same _ b 7 _ _ _ h6];rfl
 have h8:(((((((((w.setCell ⟨b,0,none⟩ v0).setCell ⟨b,1,none⟩ v1).setCell ⟨b,2,none⟩ v2).setCell ⟨b,3,none⟩ v3).setCell ⟨b,4,none⟩ v4).setCell ⟨b,5,none⟩ v5).setCell ⟨b,6,none⟩ v6).setCell ⟨b,7,none⟩ v7).setCell ⟨b,8,none⟩ v8).heap[b]? = some (.cells #[v0,v1,v2,v3,v4,v5,v6,v7,v8,u9,u10,u11,u12,u13] t):=by rw [heap_setCell_same _ b 8 _ _ _ h7];rfl
 have h9:((((((((((w.setCell ⟨b,0,none⟩ v0).setCell ⟨b,1,none⟩ v1).setCell ⟨b,2,none⟩ v2).setCell ⟨b,3,none⟩ v3).setCell ⟨b,4,none⟩ v4).setCell ⟨b,5,none⟩ v5).setCell ⟨b,6,none⟩ v6).setCell ⟨b,7,none⟩ v7).setCell ⟨b,8,none⟩ v8).setCell ⟨b,9,none⟩ v9).heap[b]? = some (.cells #[v0,v1,v2,v3,v4,v5,v6,v7,v8,v9,u10,u11,u12,u13] t):=by rw [heap_setCell_same _ b 9 _ _ _ h8];rfl
 have h10:(((((((((((w.setCell ⟨b,0,none⟩ v0).setCell ⟨b,1,none⟩ v1).setCell ⟨b,2,none⟩ v2).setCell ⟨b,3,none⟩ v3).setCell ⟨b,4,none⟩ v4).setCell ⟨b,5,none⟩ v5).setCell ⟨b,6,none⟩ v6).setCell ⟨b,7,none⟩ v7).setCell ⟨b,8,none⟩ v8).setCell ⟨b,9,none⟩ v9).setCell ⟨b,10,none⟩ v10).heap[b]? = some (.cells #[v0,v1,v2,v3,v4,v5,v6,v7,v8,v9,v10,u11,u12,u13] t):=by rw [heap_setCell_same _ b 10 _ _ _ h9];rfl
 have h11:((((((((((((w.setCell ⟨b,0,none⟩ v0).setCell ⟨b,1,none⟩ v1).setCell ⟨b,2,none⟩ v2).setCell ⟨b,3,none⟩ v3).setCell ⟨b,4,none⟩ v4).setCell ⟨b,5,none⟩ v5).setCell ⟨b,6,none⟩ v6).setCell ⟨b,7,none⟩ v7).setCell ⟨b,8,none⟩ v8).setCell ⟨b,9,none⟩ v9).setCell ⟨b,10,none⟩ v10).setCell ⟨b,11,none⟩ v11).heap[b]? = some (.cells #[v0,v1,v2,v3,v4,v5,v6,v7,v8,v9,v10,v11,u12,u13] t):=by rw [heap_setCell_same _ b 11 _ _ _ h10];rfl
 have h12:(((((((((((((w.setCell ⟨b,0,none⟩ v0).setCell ⟨b,1,none⟩ v1).setCell ⟨b,2,none⟩ v2).setCell ⟨b,3,none⟩ v3).setCell ⟨b,4,none⟩ v4).setCell ⟨b,5,none⟩ v5).setCell ⟨b,6,none⟩ v6).setCell ⟨b,7,none⟩ v7).setCell ⟨b,8,none⟩ v8).setCell ⟨b,9,none⟩ v9).setCell ⟨b,10,none⟩ v10).setCell ⟨b,11,none⟩ v11).setCell ⟨b,12,none⟩ v12).heap[b]? = some (.cells #[v0,v1,v2,v3,v4,v5,v6,v7,v8,v9,v10,v11,v12,u13] t):=by rw [heap_setCell_same _ b 12 _ _ _ h11];rfl
 have h13:((((((((((((((w.setCell ⟨b,0,none⟩ v0).setCell ⟨b,1,none⟩ v1).setCell ⟨b,2,none⟩ v2).setCell ⟨b,3,none⟩ v3).setCell ⟨b,4,none⟩ v4).setCell ⟨b,5,none⟩ v5).setCell ⟨b,6,none⟩ v6).setCell ⟨b,7,none⟩ v7).setCell ⟨b,8,none⟩ v8).setCell ⟨b,9,none⟩ v9).setCell ⟨b,10,none⟩ v10).setCell ⟨b,11,none⟩ v11).setCell ⟨b,12,none⟩ v12).setCell ⟨b,13,none⟩ v13).heap[b]? = some (.cells #[v0,v1,v2,v3,v4,v5,v6,v7,v8,v9,v10,v11,v12,v13] t):=by rw [heap_setCell_same _ b 13 _ _ _ h12];rfl
 exact h13
theorem NdAt.put14 {w:World} {b:Nat} {n0:Nd} {k0:Value} (h:NdAt w b n0 k0) (n:Nd) (k:Value):NdAt ((((((((((((((w.setCell ⟨b,0,none⟩ (.int .i64 n.kind)).setCell ⟨b,1,none⟩ (.int .i64 n.num)).setCell ⟨b,2,none⟩ (.string n.text)).setCell ⟨b,3,none⟩ (.string n.ref.sh)).setCell ⟨b,4,none⟩ (.int .i64 n.ref.c)).setCell ⟨b,5,none⟩ (.int .i64 n.ref.r)).setCell ⟨b,6,none⟩ (.bool n.ref.ac)).setCell ⟨b,7,none⟩ (.bool n.ref.ar)).setCell ⟨b,8,none⟩ (.string n.zto.sh)).setCell ⟨b,9,none⟩ (.int .i64 n.zto.c)).setCell ⟨b,10,none⟩ (.int .i64 n.zto.r)).setCell ⟨b,11,none⟩ (.bool n.zto.ac)).setCell ⟨b,12,none⟩ (.bool n.zto.ar)).setCell ⟨b,13,none⟩ (k)) b n k:=row14 w b _ _ _ _ _ _ _ _ _ _ _ _ _ _ _ _ _ _ _ _ _ _ _ _ _ _ _ _ _ h
theorem below_set14 {B:Nat} {a w:World} {b:Nat} (h:Below B a w) (hb:B≤b) (v0 v1 v2 v3 v4 v5 v6 v7 v8 v9 v10 v11 v12 v13:Value):Below B a ((((((((((((((w.setCell ⟨b,0,none⟩ v0).setCell ⟨b,1,none⟩ v1).setCell ⟨b,2,none⟩ v2).setCell ⟨b,3,none⟩ v3).setCell ⟨b,4,none⟩ v4).setCell ⟨b,5,none⟩ v5).setCell ⟨b,6,none⟩ v6).setCell ⟨b,7,none⟩ v7).setCell ⟨b,8,none⟩ v8).setCell ⟨b,9,none⟩ v9).setCell ⟨b,10,none⟩ v10).setCell ⟨b,11,none⟩ v11).setCell ⟨b,12,none⟩ v12).setCell ⟨b,13,none⟩ v13) :=
 ((((((((((((((h.setCell hb _).setCell hb _).setCell hb _).setCell hb _).setCell hb _).setCell hb _).setCell hb _).setCell hb _).setCell hb _).setCell hb _).setCell hb _).setCell hb _).setCell hb _).setCell hb _)
set_option maxRecDepth 100000 in
set_option maxHeartbeats 1600000 in
theorem fields_1 (n:Nd) (h1:n.kind=1) (A:Option Addr) (m c:Nat) (w:World):Calls Tryz.prog 115 #[.agg #[.int .i64 n.kind,.int .i64 n.num,.string n.text,.string n.ref.sh,.int .i64 n.ref.c,.int .i64 n.ref.r,.bool n.ref.ac,.bool n.ref.ar,.string n.zto.sh,.int .i64 n.zto.c,.int .i64 n.zto.r,.bool n.zto.ac,.bool n.zto.ar,.slice A m c]] w fun e w'=>e = .returned (.tuple #[.agg (nodA { Nd.zero with num:=n.num } (.slice none 0 0)),.bool (decide (0≤n.num))])∧Below w.heap.size w w':=by
 have hsz:(w.alloc (.cells #[.int .i64 n.kind,.int .i64 n.num,.string n.text,.string n.ref.sh,.int .i64 n.ref.c,.int .i64 n.ref.r,.bool n.ref.ac,.bool n.ref.ar,.string n.zto.sh,.int .i64 n.zto.c,.int .i64 n.zto.r,.bool n.zto.ac,.bool n.zto.ar,.slice A m c] 100)).heap.size=w.heap.size+1:=by simp
 have hx:NdAt (w.alloc (.cells #[.int .i64 n.kind,.int .i64 n.num,.string n.text,.string n.ref.sh,.int .i64 n.ref.c,.int .i64 n.ref.r,.bool n.ref.ac,.bool n.ref.ar,.string n.zto.sh,.int .i64 n.zto.c,.int .i64 n.zto.r,.bool n.zto.ac,.bool n.zto.ar,.slice A m c] 100)) w.heap.size n (.slice A m c):=NdAt.new w n _
 have hy:NdAt ((w.alloc (.cells #[.int .i64 n.kind,.int .i64 n.num,.string n.text,.string n.ref.sh,.int .i64 n.ref.c,.int .i64 n.ref.r,.bool n.ref.ac,.bool n.ref.ar,.string n.zto.sh,.int .i64 n.zto.c,.int .i64 n.zto.r,.bool n.zto.ac,.bool n.zto.ar,.slice A m c] 100)).alloc (.cells zNod 100)) (w.heap.size+1) Nd.zero (.slice none 0 0):=by rw [← hsz];exact NdAt.new _ Nd.zero _
 have hx2:=hx.below ((Below.refl _ _).alloc (Nat.le_refl _) (.cells zNod 100)) hx.lt
 have HB:=Lib.hid (((Below.refl w.heap.size w).alloc (Nat.le_refl _) (.cells #[.int .i64 n.kind,.int .i64 n.num,.string n.text,.string n.ref.sh,.int .i64 n.ref.c,.int .i64 n.ref.r,.bool n.ref.ac,.bool n.ref.ar,.string n.zto.sh,.int .i64 n.zto.c,.int .i64 n.zto.r,.bool n.zto.ac,.bool n.zto.ar,.slice A m c] 100)).alloc (by simp) (.cells zNod 100))
 have e1:(n.kind == 1)=true:=beq_iff_eq.2 h1
 clear h1
 go_enter Tryz.func115,Tryz.ntmps115
 go_upto_region 3 with (fail)
 generalize (w.alloc (.cells #[.int .i64 n.kind,.int .i64 n.num,.string n.text,.string n.ref.sh,.int .i64 n.ref.c,.int .i64 n.ref.r,.bool n.ref.ac,.bool n.ref.ar,.string n.zto.sh,.int .i64 n.zto.c,.int .i64 n.zto.r,.bool n.zto.ac,.bool n.zto.ar,.slice A m c] 100)).alloc (.cells zNod 100)=w1 at hx2 hy HB ⊢
 obtain ⟨x0,x1,x2,x3,x4,x5,x6,x7,x8,x9,x10,x11,x12,x13⟩:=hx2.cells
 obtain ⟨y0,y1,y2,y3,y4,y5,y6,y7,y8,y9,y10,y11,y12,y13⟩:=hy.cells
 have f0:=hy.frozen 0
 have f1:=hy.frozen 1
 have f2:=hy.frozen 2
 have f3:=hy.frozen 3
 have f4:=hy.frozen 4
 have f5:=hy.frozen 5
 have f6:=hy.frozen 6
 have f7:=hy.frozen 7
 have f8:=hy.frozen 8
 have f9:=hy.frozen 9
 have f10:=hy.frozen 10
 have f11:=hy.frozen 11
 have f12:=hy.frozen 12
 have f13:=hy.frozen 13
 have HY:=Lib.hid hy
 clear hx hx2 hy
 go_region
 all_goals go_wp2_with fail
 all_goals exact bodyPost_ret (out_nod (HY.out.put14 { Nd.zero with num:=n.num } (.slice none 0 0)).drew _ _ _ 2 3 res_fields rfl rfl) rfl ⟨rfl,(below_set14 HB.out (by omega) _ _ _ _ _ _ _ _ _ _ _ _ _ _).drew⟩
theorem NdAt.melts {w:World} {b:Nat} {n:Nd} {k:Value} (h:NdAt w b n k):w.frozen? ⟨b,0,none⟩=false∧w.frozen? ⟨b,1,none⟩=false∧w.frozen? ⟨b,2,none⟩=false∧w.frozen? ⟨b,3,none⟩=false∧w.frozen? ⟨b,4,none⟩=false∧w.frozen? ⟨b,5,none⟩=false∧w.frozen? ⟨b,6,none⟩=false∧w.frozen? ⟨b,7,none⟩=false∧w.frozen? ⟨b,8,none⟩=false∧w.frozen? ⟨b,9,none⟩=false∧w.frozen? ⟨b,10,none⟩=false∧w.frozen? ⟨b,11,none⟩=false∧w.frozen? ⟨b,12,none⟩=false∧w.frozen? ⟨b,13,none⟩=false :=
 ⟨h.frozen 0,h.frozen 1,h.frozen 2,h.frozen 3,h.frozen 4,h.frozen 5,h.frozen 6,h.frozen 7,h.frozen 8,h.frozen 9,h.frozen 10,h.frozen 11,h.frozen 12,h.frozen 13⟩
theorem nod2 (w:World) (n:Nd) (A:Option Addr) (m c:Nat):∃ w1,(w.alloc (.cells #[.int .i64 n.kind,.int .i64 n.num,.string n.text,.string n.ref.sh,.int .i64 n.ref.c,.int .i64 n.ref.r,.bool n.ref.ac,.bool n.ref.ar,.string n.zto.sh,.int .i64 n.zto.c,.int .i64 n.zto.r,.bool n.zto.ac,.bool n.zto.ar,.slice A m c] 100)).alloc (.cells zNod 100)=w1∧NdAt w1 w.heap.size n (.slice A m c)∧NdAt w1 (w.heap.size+1) Nd.zero (.slice none 0 0)∧Below w.heap.size w w1∧w.heap.size+1<w1.heap.size:=by
 have hx:=NdAt.new w n (.slice A m c)
 obtain ⟨wa,hwa⟩:∃ wa,w.alloc (.cells #[.int .i64 n.kind,.int .i64 n.num,.string n.text,.string n.ref.sh,.int .i64 n.ref.c,.int .i64 n.ref.r,.bool n.ref.ac,.bool n.ref.ar,.string n.zto.sh,.int .i64 n.zto.c,.int .i64 n.zto.r,.bool n.zto.ac,.bool n.zto.ar,.slice A m c] 100)=wa:=⟨_,rfl⟩
 have hba:Below w.heap.size w wa:=by rw [← hwa];exact (Below.refl _ _).alloc (Nat.le_refl _) _
 have hz:wa.heap.size=w.heap.size+1:=by rw [← hwa,World.size_alloc]
 have hx1:NdAt wa w.heap.size n (.slice A m c):=by rw [← hwa];exact hx
 have hb:Below wa.heap.size wa (wa.alloc (.cells zNod 100)):=(Below.refl _ _).alloc (Nat.le_refl _) _
 have hy:=NdAt.new wa Nd.zero (.slice none 0 0)
 rw [hz] at hy
 refine ⟨wa.alloc (.cells zNod 100),by rw [hwa],hx1.below hb hx1.lt,hy,hba.trans (hb.mono hba.size),by rw [World.size_alloc,hz];exact Nat.lt_succ_self _⟩
set_option maxRecDepth 100000 in
set_option maxHeartbeats 4000000 in
theorem fields_2 (w:World) (n:Nd) (h2:n.kind=2) (hs:n.text.size≤1000000) (A:Option Addr) (m c:Nat):Calls Tryz.prog 115 #[.agg #[.int .i64 n.kind,.int .i64 n.num,.string n.text,.string n.ref.sh,.int .i64 n.ref.c,.int .i64 n.ref.r,.bool n.ref.ac,.bool n.ref.ar,.string n.zto.sh,.int .i64 n.zto.c,.int .i64 n.zto.r,.bool n.zto.ac,.bool n.zto.ar,.slice A m c]] w fun e w'=>e = .returned (.tuple #[.agg (nodA { Nd.zero with text:=n.text } (.slice none 0 0)),.bool (printB (sb n.text))])∧Below w.heap.size w w':=by
 obtain ⟨w1,hw1,hx2,hy,hb,hb2⟩:=nod2 w n A m c
 have HB:=Lib.hid hb
 obtain ⟨x0,x1,x2,x3,x4,x5,x6,x7,x8,x9,x10,x11,x12,x13⟩:=hx2.cells
 have e1:(n.kind == 1)=false:=by rw [h2];rfl
 have e2:(n.kind == 2)=true:=beq_iff_eq.2 h2
 clear h2
 go_enter Tryz.func115,Tryz.ntmps115
 go_upto_region 5 with (fail)
 clear hw1 hb
 obtain ⟨y0,y1,y2,y3,y4,y5,y6,y7,y8,y9,y10,y11,y12,y13⟩:=hy.cells
 obtain ⟨f0,f1,f2,f3,f4,f5,f6,f7,f8,f9,f10,f11,f12,f13⟩:=hy.melts
 have HY:=Lib.hid hy
 have HX:=Lib.hid hx2
 clear hx2 hy
 have HT:=Lib.hid (fun w=>isText_any n.text w hs)
 go_region_with (go_at_call 149;((with_reducible refine (HT.out _).mono ?_);rintro e w2 ⟨rfl,rfl⟩))
 all_goals go_wp2_with fail
 all_goals exact bodyPost_ret (out_nod (HY.out.put14 { Nd.zero with text:=n.text } (.slice none 0 0)).drew _ _ _ 2 3 res_fields rfl rfl) rfl ⟨rfl,(below_set14 HB.out (by have:=HB.out.size;omega) _ _ _ _ _ _ _ _ _ _ _ _ _ _).drew⟩
set_option maxRecDepth 100000 in
set_option maxHeartbeats 4000000 in
theorem fields_3a (w:World) (n:Nd) (h3:n.kind=3) (h0:n.num=0) (A:Option Addr) (m c:Nat):Calls Tryz.prog 115 #[.agg #[.int .i64 n.kind,.int .i64 n.num,.string n.text,.string n.ref.sh,.int .i64 n.ref.c,.int .i64 n.ref.r,.bool n.ref.ac,.bool n.ref.ar,.string n.zto.sh,.int .i64 n.zto.c,.int .i64 n.zto.r,.bool n.zto.ac,.bool n.zto.ar,.slice A m c]] w fun e w'=>e = .returned (.tuple #[.agg (nodA { Nd.zero with num:=n.num } (.slice none 0 0)),.bool true])∧Below w.heap.size w w':=by
 obtain ⟨w1,hw1,hx2,hy,hb,hb2⟩:=nod2 w n A m c
 have HB:=Lib.hid hb
 obtain ⟨x0,x1,x2,x3,x4,x5,x6,x7,x8,x9,x10,x11,x12,x13⟩:=hx2.cells
 have e1:(n.kind == 1)=false:=by rw [h3];rfl
 have e2:(n.kind == 2)=false:=by rw [h3];rfl
 have e3:(n.kind == 3)=true:=beq_iff_eq.2 h3
 clear h3
 have q0:(n.num == 0)=true:=beq_iff_eq.2 h0
 clear h0
 go_enter Tryz.func115,Tryz.ntmps115
 go_upto_region 7 with (fail)
 clear hw1 hb
 obtain ⟨y0,y1,y2,y3,y4,y5,y6,y7,y8,y9,y10,y11,y12,y13⟩:=hy.cells
 obtain ⟨f0,f1,f2,f3,f4,f5,f6,f7,f8,f9,f10,f11,f12,f13⟩:=hy.melts
 have HY:=Lib.hid hy
 have HX:=Lib.hid hx2
 clear hx2 hy
 go_region
 all_goals go_wp2_with fail
 all_goals exact bodyPost_ret (out_nod (HY.out.put14 { Nd.zero with num:=n.num } (.slice none 0 0)).drew _ _ _ 2 3 res_fields rfl rfl) rfl ⟨rfl,(below_set14 HB.out (by have:=HB.out.size;omega) _ _ _ _ _ _ _ _ _ _ _ _ _ _).drew⟩
set_option maxRecDepth 100000 in
set_option maxHeartbeats 4000000 in
theorem fields_3b (w:World) (n:Nd) (h3:n.kind=3) (h0:n.num=1) (A:Option Addr) (m c:Nat):Calls Tryz.prog 115 #[.agg #[.int .i64 n.kind,.int .i64 n.num,.string n.text,.string n.ref.sh,.int .i64 n.ref.c,.int .i64 n.ref.r,.bool n.ref.ac,.bool n.ref.ar,.string n.zto.sh,.int .i64 n.zto.c,.int .i64 n.zto.r,.bool n.zto.ac,.bool n.zto.ar,.slice A m c]] w fun e w'=>e = .returned (.tuple #[.agg (nodA { Nd.zero with num:=n.num } (.slice none 0 0)),.bool true])∧Below w.heap.size w w':=by
 obtain ⟨w1,hw1,hx2,hy,hb,hb2⟩:=nod2 w n A m c
 have HB:=Lib.hid hb
 obtain ⟨x0,x1,x2,x3,x4,x5,x6,x7,x8,x9,x10,x11,x12,x13⟩:=hx2.cells
 have e1:(n.kind == 1)=false:=by rw [h3];rfl
 have e2:(n.kind == 2)=false:=by rw [h3];rfl
 have e3:(n.kind == 3)=true:=beq_iff_eq.2 h3
 clear h3
 have q0:(n.num == 0)=false:=by rw [h0];rfl
 have q1:(n.num == 1)=true:=beq_iff_eq.2 h0
 clear h0
 go_enter Tryz.func115,Tryz.ntmps115
 go_upto_region 7 with (fail)
 clear hw1 hb
 obtain ⟨y0,y1,y2,y3,y4,y5,y6,y7,y8,y9,y10,y11,y12,y13⟩:=hy.cells
 obtain ⟨f0,f1,f2,f3,f4,f5,f6,f7,f8,f9,f10,f11,f12,f13⟩:=hy.melts
 have HY:=Lib.hid hy
 have HX:=Lib.hid hx2
 clear hx2 hy
 go_region
 all_goals go_wp2_with fail
 all_goals exact bodyPost_ret (out_nod (HY.out.put14 { Nd.zero with num:=n.num } (.slice none 0 0)).drew _ _ _ 2 3 res_fields rfl rfl) rfl ⟨rfl,(below_set14 HB.out (by have:=HB.out.size;omega) _ _ _ _ _ _ _ _ _ _ _ _ _ _).drew⟩
set_option maxRecDepth 100000 in
set_option maxHeartbeats 4000000 in
theorem fields_5 (w:World) (n:Nd) (h5:n.kind=5) (hs:n.ref.sh.size≤1000000) (A:Option Addr) (m c:Nat):Calls Tryz.prog 115 #[.agg #[.int .i64 n.kind,.int .i64 n.num,.string n.text,.string n.ref.sh,.int .i64 n.ref.c,.int .i64 n.ref.r,.bool n.ref.ac,.bool n.ref.ar,.string n.zto.sh,.int .i64 n.zto.c,.int .i64 n.zto.r,.bool n.zto.ac,.bool n.zto.ar,.slice A m c]] w fun e w'=>e = .returned (.tuple #[.agg (nodA { Nd.zero with ref:=n.ref } (.slice none 0 0)),.bool (mayRf n.ref)])∧Below w.heap.size w w':=by
 obtain ⟨w1,hw1,hx2,hy,hb,hb2⟩:=nod2 w n A m c
 have HB:=Lib.hid hb
 obtain ⟨x0,x1,x2,x3,x4,x5,x6,x7,x8,x9,x10,x11,x12,x13⟩:=hx2.cells
 have e1:(n.kind == 1)=false:=by rw [h5];rfl
 have e2:(n.kind == 2)=false:=by rw [h5];rfl
 have e3:(n.kind == 3)=false:=by rw [h5];rfl
 have e5:(n.kind == 5)=true:=beq_iff_eq.2 h5
 clear h5
 go_enter Tryz.func115,Tryz.ntmps115
 go_upto_region 9 with (fail)
 clear hw1 hb
 obtain ⟨y0,y1,y2,y3,y4,y5,y6,y7,y8,y9,y10,y11,y12,y13⟩:=hy.cells
 obtain ⟨f0,f1,f2,f3,f4,f5,f6,f7,f8,f9,f10,f11,f12,f13⟩:=hy.melts
 have HY:=Lib.hid hy
 have HX:=Lib.hid hx2
 clear hx2 hy
 have HT:=Lib.hid (fun w=>may_any n.ref.sh n.ref.c n.ref.r n.ref.ac n.ref.ar w hs)
 go_region_held3 (fun w'=>w'.cell? ⟨w.heap.size,3,none⟩=some (.string n.ref.sh)∧w'.cell? ⟨w.heap.size,4,none⟩=some (.int .i64 n.ref.c)∧w'.cell? ⟨w.heap.size,5,none⟩=some (.int .i64 n.ref.r)∧w'.cell? ⟨w.heap.size,6,none⟩=some (.bool n.ref.ac)∧w'.cell? ⟨w.heap.size,7,none⟩=some (.bool n.ref.ar)) (go_keep) (first | (go_at_call 150;((with_reducible refine (HT.out _).mono ?_);rintro e w2 ⟨rfl,h1⟩;have HY2:=Lib.hid (HY.out.drew.below h1 HY.out.lt);have HX2:=Lib.hid (HX.out.drew.below h1 HX.out.lt);have HB2:=Lib.hid (HB.out.drew.trans (h1.mono HB.out.size));obtain ⟨z0,z1,z2,z3,z4,z5,z6,z7,z8,z9,z10,z11,z12,z13⟩:=HY2.out.cells;obtain ⟨g0,g1,g2,g3,g4,g5,g6,g7,g8,g9,g10,g11,g12,g13⟩:=HY2.out.melts;obtain ⟨t0,t1,t2,t3,t4,t5,t6,t7,t8,t9,t10,t11,t12,t13⟩:=HX2.out.cells;clear h1)))
 all_goals go_wp2_with fail
 all_goals exact bodyPost_ret (out_nod (HY2.out.put14 { Nd.zero with ref:=n.ref } (.slice none 0 0)) _ _ _ 2 3 res_fields rfl rfl) rfl ⟨rfl,below_set14 HB2.out (by have:=HB.out.size;omega) _ _ _ _ _ _ _ _ _ _ _ _ _ _⟩
set_option maxRecDepth 100000 in
set_option maxHeartbeats 4000000 in
theorem fields_7 (w:World) (n:Nd) (h7:n.kind=7) (hv:Vars w) (A:Option Addr) (m c:Nat):Calls Tryz.prog 115 #[.agg #[.int .i64 n.kind,.int .i64 n.num,.string n.text,.string n.ref.sh,.int .i64 n.ref.c,.int .i64 n.ref.r,.bool n.ref.ac,.bool n.ref.ar,.string n.zto.sh,.int .i64 n.zto.c,.int .i64 n.zto.r,.bool n.zto.ac,.bool n.zto.ar,.slice A m c]] w fun e w'=>e = .returned (.tuple #[.agg (nodA { Nd.zero with text:=n.text } (.slice none 0 0)),.bool (callB n.text)])∧Below w.heap.size w w':=by
 obtain ⟨w1,hw1,hx2,hy,hb,hb2⟩:=nod2 w n A m c
 have HB:=Lib.hid hb
 obtain ⟨x0,x1,x2,x3,x4,x5,x6,x7,x8,x9,x10,x11,x12,x13⟩:=hx2.cells
 have e1:(n.kind == 1)=false:=by rw [h7];rfl
 have e2:(n.kind == 2)=false:=by rw [h7];rfl
 have e3:(n.kind == 3)=false:=by rw [h7];rfl
 have e5:(n.kind == 5)=false:=by rw [h7];rfl
 have e6:(n.kind == 6)=false:=by rw [h7];rfl
 have e7:(n.kind == 7)=true:=beq_iff_eq.2 h7
 clear h7
 have HVV:=Lib.hid hv;clear hv
 go_enter Tryz.func115,Tryz.ntmps115
 go_upto_region 13 with (fail)
 clear hw1 hb
 obtain ⟨y0,y1,y2,y3,y4,y5,y6,y7,y8,y9,y10,y11,y12,y13⟩:=hy.cells
 obtain ⟨f0,f1,f2,f3,f4,f5,f6,f7,f8,f9,f10,f11,f12,f13⟩:=hy.melts
 have HY:=Lib.hid hy
 have HX:=Lib.hid hx2
 clear hx2 hy
 have HT:=Lib.hid (fun wr (hb:Below w.heap.size w wr)=>isName5_any n.text wr (HVV.out.below hb))
 go_region_held3 (fun w'=>w'.cell? ⟨w.heap.size,2,none⟩=some (.string n.text)) (go_keep) (first | (go_at_call 151;((with_reducible refine (HT.out _ HB.out.drew).mono ?_);rintro e w2 ⟨rfl,h1⟩;have HY2:=Lib.hid (HY.out.drew.below h1 HY.out.lt);have HX2:=Lib.hid (HX.out.drew.below h1 HX.out.lt);have HB2:=Lib.hid (HB.out.drew.trans (h1.mono HB.out.size));clear h1;obtain ⟨z0,z1,z2,z3,z4,z5,z6,z7,z8,z9,z10,z11,z12,z13⟩:=HY2.out.cells;obtain ⟨g0,g1,g2,g3,g4,g5,g6,g7,g8,g9,g10,g11,g12,g13⟩:=HY2.out.melts;obtain ⟨t0,t1,t2,t3,t4,t5,t6,t7,t8,t9,t10,t11,t12,t13⟩:=HX2.out.cells)))
 all_goals go_wp2_with fail
 all_goals exact bodyPost_ret (out_nod (HY2.out.put14 { Nd.zero with text:=n.text } (.slice none 0 0)) _ _ _ 2 3 res_fields rfl rfl) rfl ⟨rfl,below_set14 HB2.out (by have:=HB.out.size;omega) _ _ _ _ _ _ _ _ _ _ _ _ _ _⟩
set_option maxRecDepth 100000 in
set_option maxHeartbeats 4000000 in
theorem fields_6c (w:World) (n:Nd) (h6:n.kind=6) (hs:n.ref.sh.size≤1000000) (ht:n.zto.sh.size≤1000000) (q1:mayRf n.ref=true) (q2:mayRf n.zto=true) (A:Option Addr) (m c:Nat):Calls Tryz.prog 115 #[.agg #[.int .i64 n.kind,.int .i64 n.num,.string n.text,.string n.ref.sh,.int .i64 n.ref.c,.int .i64 n.ref.r,.bool n.ref.ac,.bool n.ref.ar,.string n.zto.sh,.int .i64 n.zto.c,.int .i64 n.zto.r,.bool n.zto.ac,.bool n.zto.ar,.slice A m c]] w fun e w'=>e = .returned (.tuple #[.agg (nodA ⟨0,0,⟨#[]⟩,n.ref,n.zto,[]⟩ (.slice none 0 0)),.bool (spanB n.ref n.zto)])∧Below w.heap.size w w':=by
 obtain ⟨w1,hw1,hx2,hy,hb,hb2⟩:=nod2 w n A m c
 have HB:=Lib.hid hb
 obtain ⟨x0,x1,x2,x3,x4,x5,x6,x7,x8,x9,x10,x11,x12,x13⟩:=hx2.cells
 have e1:(n.kind == 1)=false:=by rw [h6];rfl
 have e2:(n.kind == 2)=false:=by rw [h6];rfl
 have e3:(n.kind == 3)=false:=by rw [h6];rfl
 have e5:(n.kind == 5)=false:=by rw [h6];rfl
 have e6:(n.kind == 6)=true:=beq_iff_eq.2 h6
 clear h6
 go_enter Tryz.func115,Tryz.ntmps115
 go_upto_region 11 with (fail)
 clear hw1 hb
 obtain ⟨y0,y1,y2,y3,y4,y5,y6,y7,y8,y9,y10,y11,y12,y13⟩:=hy.cells
 obtain ⟨f0,f1,f2,f3,f4,f5,f6,f7,f8,f9,f10,f11,f12,f13⟩:=hy.melts
 have HY:=Lib.hid hy
 have HX:=Lib.hid hx2
 clear hx2 hy
 have HT1:=Lib.hid (show ∀ w,Calls Tryz.prog 150 #[.agg #[.string n.ref.sh,.int .i64 n.ref.c,.int .i64 n.ref.r,.bool n.ref.ac,.bool n.ref.ar]] w fun e w'=>e = .returned (.bool true)∧Below w.heap.size w w' from fun w=>by rw [← q1];exact may_any n.ref.sh n.ref.c n.ref.r n.ref.ac n.ref.ar w hs)
 have HT2:=Lib.hid (show ∀ w,Calls Tryz.prog 150 #[.agg #[.string n.zto.sh,.int .i64 n.zto.c,.int .i64 n.zto.r,.bool n.zto.ac,.bool n.zto.ar]] w fun e w'=>e = .returned (.bool true)∧Below w.heap.size w w' from fun w=>by rw [← q2];exact may_any n.zto.sh n.zto.c n.zto.r n.zto.ac n.zto.ar w ht)
 have HT3:=Lib.hid (fun w=>isRange_any n.ref.sh n.zto.sh n.ref.c n.ref.r n.zto.c n.zto.r n.ref.ac n.ref.ar n.zto.ac n.zto.ar w)
 first
  | go_region_held3 (fun w'=>w'.cell? ⟨w.heap.size,3,none⟩=some (.string n.ref.sh)∧w'.cell? ⟨w.heap.size,4,none⟩=some (.int .i64 n.ref.c)∧w'.cell? ⟨w.heap.size,5,none⟩=some (.int .i64 n.ref.r)∧w'.cell? ⟨w.heap.size,6,none⟩=some (.bool n.ref.ac)∧w'.cell? ⟨w.heap.size,7,none⟩=some (.bool n.ref.ar)∧w'.cell? ⟨w.heap.size,8,none⟩=some (.string n.zto.sh)∧w'.cell? ⟨w.heap.size,9,none⟩=some (.int .i64 n.zto.c)∧w'.cell? ⟨w.heap.size,10,none⟩=some (.int .i64 n.zto.r)∧w'.cell? ⟨w.heap.size,11,none⟩=some (.bool n.zto.ac)∧w'.cell? ⟨w.heap.size,12,none⟩=some (.bool n.zto.ar)) (go_keep) (first | (go_at_call 150;((with_reducible refine (HT1.out _).mono ?_);rintro e w2 ⟨rfl,h1⟩;have HY2:=Lib.hid (HY.out.drew.below h1 HY.out.lt);have HX2:=Lib.hid (HX.out.drew.below h1 HX.out.lt);have HB2:=Lib.hid (HB.out.drew.trans (h1.mono HB.out.size));clear h1;obtain ⟨z0,z1,z2,z3,z4,z5,z6,z7,z8,z9,z10,z11,z12,z13⟩:=HY2.out.cells;obtain ⟨g0,g1,g2,g3,g4,g5,g6,g7,g8,g9,g10,g11,g12,g13⟩:=HY2.out.melts;obtain ⟨t0,t1,t2,t3,t4,t5,t6,t7,t8,t9,t10,t11,t12,t13⟩:=HX2.out.cells)) | (go_at_call 150;((with_reducible refine (HT2.out _).mono ?_);rintro e w3 ⟨rfl,h1⟩;have HY3:=Lib.hid (HY2.out.below h1 HY2.out.lt);have HX3:=Lib.hid (HX2.out.below h1 HX2.out.lt);have HB3:=Lib.hid (HB2.out.trans (h1.mono HB2.out.size));clear h1;obtain ⟨z0,z1,z2,z3,z4,z5,z6,z7,z8,z9,z10,z11,z12,z13⟩:=HY3.out.cells;obtain ⟨g0,g1,g2,g3,g4,g5,g6,g7,g8,g9,g10,g11,g12,g13⟩:=HY3.out.melts;obtain ⟨t0,t1,t2,t3,t4,t5,t6,t7,t8,t9,t10,t11,t12,t13⟩:=HX3.out.cells)) | (go_at_call 146;((with_reducible refine (HT3.out _).mono ?_);rintro e w4 ⟨rfl,h1⟩;have HY4:=Lib.hid (HY3.out.below h1 HY3.out.lt);have HX4:=Lib.hid (HX3.out.below h1 HX3.out.lt);have HB4:=Lib.hid (HB3.out.trans (h1.mono HB3.out.size));clear h1;obtain ⟨z0,z1,z2,z3,z4,z5,z6,z7,z8,z9,z10,z11,z12,z13⟩:=HY4.out.cells;obtain ⟨g0,g1,g2,g3,g4,g5,g6,g7,g8,g9,g10,g11,g12,g13⟩:=HY4.out.melts;obtain ⟨t0,t1,t2,t3,t4,t5,t6,t7,t8,t9,t10,t11,t12,t13⟩:=HX4.out.cells)))
  | fail
 all_goals go_wp2_with fail
 all_goals exact bodyPost_ret (out_nod (HY4.out.put14 ⟨0,0,⟨#[]⟩,n.ref,n.zto,[]⟩ (.slice none 0 0)) _ _ _ 2 3 res_fields rfl rfl) rfl ⟨rfl,below_set14 HB4.out (by have:=HB.out.size;omega) _ _ _ _ _ _ _ _ _ _ _ _ _ _⟩
set_option maxRecDepth 100000 in
set_option maxHeartbeats 4000000 in
theorem fields_0a (w:World) (n:Nd) (h1:¬ n.kind=1) (h2:¬ n.kind=2) (h3:¬ n.kind=3) (h5:¬ n.kind=5) (h6:¬ n.kind=6) (h7:¬ n.kind=7) (h4:n.kind=4) (A:Option Addr) (m c:Nat):Calls Tryz.prog 115 #[.agg #[.int .i64 n.kind,.int .i64 n.num,.string n.text,.string n.ref.sh,.int .i64 n.ref.c,.int .i64 n.ref.r,.bool n.ref.ac,.bool n.ref.ar,.string n.zto.sh,.int .i64 n.zto.c,.int .i64 n.zto.r,.bool n.zto.ac,.bool n.zto.ar,.slice A m c]] w fun e w'=>e = .returned (.tuple #[.agg (nodA Nd.zero (.slice none 0 0)),.bool true])∧Below w.heap.size w w':=by
 obtain ⟨w1,hw1,hx2,hy,hb,hb2⟩:=nod2 w n A m c
 have HB:=Lib.hid hb
 obtain ⟨x0,x1,x2,x3,x4,x5,x6,x7,x8,x9,x10,x11,x12,x13⟩:=hx2.cells
 have e1:(n.kind == 1)=false:=beq_eq_false_iff_ne.2 h1
 have e2:(n.kind == 2)=false:=beq_eq_false_iff_ne.2 h2
 have e3:(n.kind == 3)=false:=beq_eq_false_iff_ne.2 h3
 have e5:(n.kind == 5)=false:=beq_eq_false_iff_ne.2 h5
 have e6:(n.kind == 6)=false:=beq_eq_false_iff_ne.2 h6
 have e7:(n.kind == 7)=false:=beq_eq_false_iff_ne.2 h7
 clear h1 h2 h3 h5 h6 h7
 have e4:(n.kind == 4)=true:=beq_iff_eq.2 h4
 clear h4
 go_enter Tryz.func115,Tryz.ntmps115
 go_upto_region 14 with (fail)
 clear hw1 hb
 obtain ⟨y0,y1,y2,y3,y4,y5,y6,y7,y8,y9,y10,y11,y12,y13⟩:=hy.cells
 obtain ⟨f0,f1,f2,f3,f4,f5,f6,f7,f8,f9,f10,f11,f12,f13⟩:=hy.melts
 have HY:=Lib.hid hy
 have HX:=Lib.hid hx2
 clear hx2 hy
 go_wp2_with (go_at_call 152;((with_reducible refine (isOfTwo_any _ _).mono ?_);rintro e w2 ⟨rfl,rfl⟩))
 all_goals exact bodyPost_ret (out_nod (HY.out.put14 Nd.zero (.slice none 0 0)) _ _ _ 2 3 res_fields rfl rfl) rfl ⟨rfl,below_set14 HB.out (by have:=HB.out.size;omega) _ _ _ _ _ _ _ _ _ _ _ _ _ _⟩
set_option maxRecDepth 100000 in
set_option maxHeartbeats 4000000 in
theorem fields_0b (w:World) (n:Nd) (h1:¬ n.kind=1) (h2:¬ n.kind=2) (h3:¬ n.kind=3) (h5:¬ n.kind=5) (h6:¬ n.kind=6) (h7:¬ n.kind=7) (h4:n.kind=8) (A:Option Addr) (m c:Nat):Calls Tryz.prog 115 #[.agg #[.int .i64 n.kind,.int .i64 n.num,.string n.text,.string n.ref.sh,.int .i64 n.ref.c,.int .i64 n.ref.r,.bool n.ref.ac,.bool n.ref.ar,.string n.zto.sh,.int .i64 n.zto.c,.int .i64 n.zto.r,.bool n.zto.ac,.bool n.zto.ar,.slice A m c]] w fun e w'=>e = .returned (.tuple #[.agg (nodA Nd.zero (.slice none 0 0)),.bool true])∧Below w.heap.size w w':=by
 obtain ⟨w1,hw1,hx2,hy,hb,hb2⟩:=nod2 w n A m c
 have HB:=Lib.hid hb
 obtain ⟨x0,x1,x2,x3,x4,x5,x6,x7,x8,x9,x10,x11,x12,x13⟩:=hx2.cells
 have e1:(n.kind == 1)=false:=beq_eq_false_iff_ne.2 h1
 have e2:(n.kind == 2)=false:=beq_eq_false_iff_ne.2 h2
 have e3:(n.kind == 3)=false:=beq_eq_false_iff_ne.2 h3
 have e5:(n.kind == 5)=false:=beq_eq_false_iff_ne.2 h5
 have e6:(n.kind == 6)=false:=beq_eq_false_iff_ne.2 h6
 have e7:(n.kind == 7)=false:=beq_eq_false_iff_ne.2 h7
 clear h1 h2 h3 h5 h6 h7
 have e4:(n.kind == 4)=false:=by rw [h4];rfl
 have e8:(n.kind == 8)=true:=beq_iff_eq.2 h4
 clear h4
 go_enter Tryz.func115,Tryz.ntmps115
 go_upto_region 14 with (fail)
 clear hw1 hb
 obtain ⟨y0,y1,y2,y3,y4,y5,y6,y7,y8,y9,y10,y11,y12,y13⟩:=hy.cells
 obtain ⟨f0,f1,f2,f3,f4,f5,f6,f7,f8,f9,f10,f11,f12,f13⟩:=hy.melts
 have HY:=Lib.hid hy
 have HX:=Lib.hid hx2
 clear hx2 hy
 go_wp2_with (go_at_call 152;((with_reducible refine (isOfTwo_any _ _).mono ?_);rintro e w2 ⟨rfl,rfl⟩))
 all_goals exact bodyPost_ret (out_nod (HY.out.put14 Nd.zero (.slice none 0 0)) _ _ _ 2 3 res_fields rfl rfl) rfl ⟨rfl,below_set14 HB.out (by have:=HB.out.size;omega) _ _ _ _ _ _ _ _ _ _ _ _ _ _⟩
set_option maxRecDepth 100000 in
set_option maxHeartbeats 4000000 in
theorem fields_0c (w:World) (n:Nd) (h1:¬ n.kind=1) (h2:¬ n.kind=2) (h3:¬ n.kind=3) (h5:¬ n.kind=5) (h6:¬ n.kind=6) (h7:¬ n.kind=7) (h4:¬ n.kind=4) (h8:¬ n.kind=8) (A:Option Addr) (m c:Nat):Calls Tryz.prog 115 #[.agg #[.int .i64 n.kind,.int .i64 n.num,.string n.text,.string n.ref.sh,.int .i64 n.ref.c,.int .i64 n.ref.r,.bool n.ref.ac,.bool n.ref.ar,.string n.zto.sh,.int .i64 n.zto.c,.int .i64 n.zto.r,.bool n.zto.ac,.bool n.zto.ar,.slice A m c]] w fun e w'=>e = .returned (.tuple #[.agg (nodA Nd.zero (.slice none 0 0)),.bool (twoB n.kind)])∧Below w.heap.size w w':=by
 obtain ⟨w1,hw1,hx2,hy,hb,hb2⟩:=nod2 w n A m c
 have HB:=Lib.hid hb
 obtain ⟨x0,x1,x2,x3,x4,x5,x6,x7,x8,x9,x10,x11,x12,x13⟩:=hx2.cells
 have e1:(n.kind == 1)=false:=beq_eq_false_iff_ne.2 h1
 have e2:(n.kind == 2)=false:=beq_eq_false_iff_ne.2 h2
 have e3:(n.kind == 3)=false:=beq_eq_false_iff_ne.2 h3
 have e5:(n.kind == 5)=false:=beq_eq_false_iff_ne.2 h5
 have e6:(n.kind == 6)=false:=beq_eq_false_iff_ne.2 h6
 have e7:(n.kind == 7)=false:=beq_eq_false_iff_ne.2 h7
 clear h1 h2 h3 h5 h6 h7
 have e4:(n.kind == 4)=false:=beq_eq_false_iff_ne.2 h4
 have e8:(n.kind == 8)=false:=beq_eq_false_iff_ne.2 h8
 clear h4 h8
 go_enter Tryz.func115,Tryz.ntmps115
 go_upto_region 14 with (fail)
 clear hw1 hb
 obtain ⟨y0,y1,y2,y3,y4,y5,y6,y7,y8,y9,y10,y11,y12,y13⟩:=hy.cells
 obtain ⟨f0,f1,f2,f3,f4,f5,f6,f7,f8,f9,f10,f11,f12,f13⟩:=hy.melts
 have HY:=Lib.hid hy
 have HX:=Lib.hid hx2
 clear hx2 hy
 go_wp2_with (go_at_call 152;((with_reducible refine (isOfTwo_any _ _).mono ?_);rintro e w2 ⟨rfl,rfl⟩))
 all_goals exact bodyPost_ret (out_nod (HY.out.put14 Nd.zero (.slice none 0 0)) _ _ _ 2 3 res_fields rfl rfl) rfl ⟨rfl,below_set14 HB.out (by have:=HB.out.size;omega) _ _ _ _ _ _ _ _ _ _ _ _ _ _⟩
def eqR (a b:Rf):Bool:=decide (a.sh=b.sh)&&(decide (a.c=b.c)&&(decide (a.r=b.r)&&((a.ac == b.ac)&&(a.ar == b.ar))))
theorem eqR_iff (a b:Rf):eqR a b=true↔a=b:=by
 unfold eqR
 simp only [Bool.and_eq_true,decide_eq_true_iff,beq_iff_eq]
 cases a;cases b
 simp
def isNd (n:Nd) (m:Nat):Bool:=okF n&&(hkB n.kind m&&(decide (n.num=(namedN n).num)&&(decide (n.text=(namedN n).text)&&(eqR n.ref (namedN n).ref&&eqR n.zto (namedN n).zto))))
theorem eqR_self (a:Rf):eqR a a=true:=(eqR_iff a a).2 rfl
theorem noRf_eq (r:Rf):noRf r=eqR r Rf.zero:=by
 obtain ⟨sh,c,r,ac,ar⟩:=r
 unfold noRf eqR Rf.zero
 simp only
 rw [Bool.eq_iff_iff]
 simp only [Bool.and_eq_true,decide_eq_true_iff,beq_iff_eq,Bool.not_eq_true']
 constructor
 · rintro ⟨⟨h1,h2,h3⟩,h4,h5⟩;exact ⟨h1,h2,h3,h4,h5⟩
 · rintro ⟨h1,h2,h3,h4,h5⟩;exact ⟨⟨h1,h2,h3⟩,h4,h5⟩
def ok2 (n:Nd):Bool :=
 if n.kind=1 then decide (0≤n.num) else if n.kind=2 then printB (sb n.text) else if n.kind=3 then decide (n.num=0∨n.num=1)
 else if n.kind=5 then mayRf n.ref else if n.kind=6 then mayRf n.ref&&(mayRf n.zto&&spanB n.ref n.zto) else if n.kind=7 then callB n.text else true
def cNum (n:Nd):Bool:=decide (n.kind=1∨n.kind=3∨n.num=0)
def cText (n:Nd):Bool:=decide (n.kind=2∨n.kind=7∨n.text=⟨#[]⟩)
def cRef (n:Nd):Bool:=decide (n.kind=5∨n.kind=6)||eqR n.ref Rf.zero
def cTo (n:Nd):Bool:=decide (n.kind=6)||eqR n.zto Rf.zero
theorem named_cases (n:Nd):(n.kind=1∧namedN n={ Nd.zero with num:=n.num })∨(n.kind=2∧namedN n={ Nd.zero with text:=n.text })∨(n.kind=3∧namedN n={ Nd.zero with num:=n.num })∨(n.kind=5∧namedN n={ Nd.zero with ref:=n.ref })∨(n.kind=6∧namedN n=⟨0,0,⟨#[]⟩,n.ref,n.zto,[]⟩)∨(n.kind=7∧namedN n={ Nd.zero with text:=n.text })∨(¬ n.kind=1∧¬ n.kind=2∧¬ n.kind=3∧¬ n.kind=5∧¬ n.kind=6∧¬ n.kind=7∧namedN n=Nd.zero):=by
 unfold namedN
 by_cases h1:n.kind=1
 · exact Or.inl ⟨h1,by rw [if_pos h1]⟩
 by_cases h2:n.kind=2
 · exact Or.inr <| Or.inl ⟨h2,by rw [if_neg h1,if_pos h2]⟩
 by_cases h3:n.kind=3
 · exact Or.inr <| Or.inr <| Or.inl ⟨h3,by rw [if_neg h1,if_neg h2,if_pos h3]⟩
 by_cases h5:n.kind=5
 · exact Or.inr <| Or.inr <| Or.inr <| Or.inl ⟨h5,by rw [if_neg h1,if_neg h2,if_neg h3,if_pos h5]⟩
 by_cases h6:n.kind=6
 · exact Or.inr <| Or.inr <| Or.inr <| Or.inr <| Or.inl ⟨h6,by rw [if_neg h1,if_neg h2,if_neg h3,if_neg h5,if_pos h6]⟩
 by_cases h7:n.kind=7
 · exact Or.inr <| Or.inr <| Or.inr <| Or.inr <| Or.inr <| Or.inl ⟨h7,by rw [if_neg h1,if_neg h2,if_neg h3,if_neg h5,if_neg h6,if_pos h7]⟩
 exact Or.inr <| Or.inr <| Or.inr <| Or.inr <| Or.inr <| Or.inr <| ⟨h1,h2,h3,h5,h6,h7,by rw [if_neg h1,if_neg h2,if_neg h3,if_neg h5,if_neg h6,if_neg h7]⟩
theorem named_num (n:Nd):decide (n.num=(namedN n).num)=cNum n:=by
 rcases named_cases n with ⟨h,e⟩ | ⟨h,e⟩ | ⟨h,e⟩ | ⟨h,e⟩ | ⟨h,e⟩ | ⟨h,e⟩ | ⟨h1,h2,h3,h5,h6,h7,e⟩
 · rw [e];unfold cNum;rw [show decide (n.num=n.num)=true from decide_eq_true rfl];symm;rw [decide_eq_true_iff];first | exact .inl h | exact .inr (.inl h)
 · rw [e];unfold cNum;show decide (n.num=0)=_;rw [decide_eq_decide];constructor
   · intro g;exact .inr (.inr g)
   · rintro (g | g | g)
     · omega
     · omega
     · exact g
 · rw [e];unfold cNum;rw [show decide (n.num=n.num)=true from decide_eq_true rfl];symm;rw [decide_eq_true_iff];first | exact .inl h | exact .inr (.inl h)
 · rw [e];unfold cNum;show decide (n.num=0)=_;rw [decide_eq_decide];constructor
   · intro g;exact .inr (.inr g)
   · rintro (g | g | g)
     · omega
     · omega
     · exact g
 · rw [e];unfold cNum;show decide (n.num=0)=_;rw [decide_eq_decide];constructor
   · intro g;exact .inr (.inr g)
   · rintro (g | g | g)
     · omega
     · omega
     · exact g
 · rw [e];unfold cNum;show decide (n.num=0)=_;rw [decide_eq_decide];constructor
   · intro g;exact .inr (.inr g)
   · rintro (g | g | g)
     · omega
     · omega
     · exact g
 · rw [e];unfold cNum;show decide (n.num=0)=_;rw [decide_eq_decide];constructor
   · intro g;exact .inr (.inr g)
   · rintro (g | g | g)
     · omega
     · omega
     · exact g
theorem named_text (n:Nd):decide (n.text=(namedN n).text)=cText n:=by
 rcases named_cases n with ⟨h,e⟩ | ⟨h,e⟩ | ⟨h,e⟩ | ⟨h,e⟩ | ⟨h,e⟩ | ⟨h,e⟩ | ⟨h1,h2,h3,h5,h6,h7,e⟩
 · rw [e];unfold cText;show decide (n.text=⟨#[]⟩)=_;rw [decide_eq_decide];constructor
   · intro g;exact .inr (.inr g)
   · rintro (g | g | g)
     · omega
     · omega
     · exact g
 · rw [e];unfold cText;rw [show decide (n.text=n.text)=true from decide_eq_true rfl];symm;rw [decide_eq_true_iff];first | exact .inl h | exact .inr (.inl h)
 · rw [e];unfold cText;show decide (n.text=⟨#[]⟩)=_;rw [decide_eq_decide];constructor
   · intro g;exact .inr (.inr g)
   · rintro (g | g | g)
     · omega
     · omega
     · exact g
 · rw [e];unfold cText;show decide (n.text=⟨#[]⟩)=_;rw [decide_eq_decide];constructor
   · intro g;exact .inr (.inr g)
   · rintro (g | g | g)
     · omega
     · omega
     · exact g
 · rw [e];unfold cText;show decide (n.text=⟨#[]⟩)=_;rw [decide_eq_decide];constructor
   · intro g;exact .inr (.inr g)
   · rintro (g | g | g)
     · omega
     · omega
     · exact g
 · rw [e];unfold cText;rw [show decide (n.text=n.text)=true from decide_eq_true rfl];symm;rw [decide_eq_true_iff];first | exact .inl h | exact .inr (.inl h)
 · rw [e];unfold cText;show decide (n.text=⟨#[]⟩)=_;rw [decide_eq_decide];constructor
   · intro g;exact .inr (.inr g)
   · rintro (g | g | g)
     · omega
     · omega
     · exact g
theorem named_ref (n:Nd):eqR n.ref (namedN n).ref=cRef n:=by
 rcases named_cases n with ⟨h,e⟩ | ⟨h,e⟩ | ⟨h,e⟩ | ⟨h,e⟩ | ⟨h,e⟩ | ⟨h,e⟩ | ⟨h1,h2,h3,h5,h6,h7,e⟩
 · rw [e];unfold cRef;show eqR n.ref Rf.zero=_;rw [decide_eq_false (by omega)];rfl
 · rw [e];unfold cRef;show eqR n.ref Rf.zero=_;rw [decide_eq_false (by omega)];rfl
 · rw [e];unfold cRef;show eqR n.ref Rf.zero=_;rw [decide_eq_false (by omega)];rfl
 · rw [e];unfold cRef;rw [show eqR n.ref n.ref=true from eqR_self _,decide_eq_true (by omega)];rfl
 · rw [e];unfold cRef;rw [show eqR n.ref n.ref=true from eqR_self _,decide_eq_true (by omega)];rfl
 · rw [e];unfold cRef;show eqR n.ref Rf.zero=_;rw [decide_eq_false (by omega)];rfl
 · rw [e];unfold cRef;show eqR n.ref Rf.zero=_;rw [decide_eq_false (by omega)];rfl
theorem named_to (n:Nd):eqR n.zto (namedN n).zto=cTo n:=by
 rcases named_cases n with ⟨h,e⟩ | ⟨h,e⟩ | ⟨h,e⟩ | ⟨h,e⟩ | ⟨h,e⟩ | ⟨h,e⟩ | ⟨h1,h2,h3,h5,h6,h7,e⟩
 · rw [e];unfold cTo;show eqR n.zto Rf.zero=_;rw [decide_eq_false (by omega)];rfl
 · rw [e];unfold cTo;show eqR n.zto Rf.zero=_;rw [decide_eq_false (by omega)];rfl
 · rw [e];unfold cTo;show eqR n.zto Rf.zero=_;rw [decide_eq_false (by omega)];rfl
 · rw [e];unfold cTo;show eqR n.zto Rf.zero=_;rw [decide_eq_false (by omega)];rfl
 · rw [e];unfold cTo;rw [show eqR n.zto n.zto=true from eqR_self _,decide_eq_true (by omega)];rfl
 · rw [e];unfold cTo;show eqR n.zto Rf.zero=_;rw [decide_eq_false (by omega)];rfl
 · rw [e];unfold cTo;show eqR n.zto Rf.zero=_;rw [decide_eq_false (by omega)];rfl
theorem leaf_eq (n:Nd):leafB n=((cNum n&&(cText n&&(cRef n&&cTo n)))&&ok2 n):=by
 unfold leafB cNum cText cRef cTo
 rw [noRf_eq,noRf_eq]
 have hk:(if n.kind=1 then decide (0≤n.num) else if n.kind=3 then decide (n.num=0∨n.num=1) else if n.kind=2 then printB (sb n.text) else if n.kind=7 then callB n.text else if n.kind=5 then mayRf n.ref else if n.kind=6 then mayRf n.ref&&(mayRf n.zto&&spanB n.ref n.zto) else true)=ok2 n:=by
  unfold ok2
  by_cases h1:n.kind=1
  · rw [if_pos h1,if_pos h1]
  by_cases h2:n.kind=2
  · rw [if_neg h1,if_neg (by omega),if_pos h2,if_neg h1,if_pos h2]
  by_cases h3:n.kind=3
  · rw [if_neg h1,if_pos h3,if_neg h1,if_neg h2,if_pos h3]
  by_cases h5:n.kind=5
  · rw [if_neg h1,if_neg h3,if_neg h2,if_neg (by omega),if_pos h5,if_neg h1,if_neg h2,if_neg h3,if_pos h5]
  by_cases h6:n.kind=6
  · rw [if_neg h1,if_neg h3,if_neg h2,if_neg (by omega),if_neg h5,if_pos h6,if_neg h1,if_neg h2,if_neg h3,if_neg h5,if_pos h6]
  by_cases h7:n.kind=7
  · rw [if_neg h1,if_neg h3,if_neg h2,if_pos h7,if_neg h1,if_neg h2,if_neg h3,if_neg h5,if_neg h6,if_pos h7]
  rw [if_neg h1,if_neg h3,if_neg h2,if_neg h7,if_neg h5,if_neg h6,if_neg h1,if_neg h2,if_neg h3,if_neg h5,if_neg h6,if_neg h7]
 rw [hk]
 by_cases q1:n.kind=1∨n.kind=3∨n.num=0
 · by_cases q2 : n.kind=2∨n.kind=7∨n.text=⟨#[]⟩
   · by_cases q3:n.kind=5∨n.kind=6
     · by_cases q4:n.kind=6
       · rw [decide_eq_true q1,decide_eq_true q2,decide_eq_true q3,decide_eq_true q4,if_neg]
         · rfl
         · rintro (g | g | g | g)
           · omega
           · rcases q2 with q | q | q
             · exact g.1 q
             · exact g.2.1 q
             · exact g.2.2 q
           · omega
           · omega
       · cases q5:eqR n.zto Rf.zero
         · rw [if_pos (.inr (.inr (.inr ⟨q4,rfl⟩))),decide_eq_false q4,Bool.or_false,Bool.and_false,Bool.and_false,Bool.and_false];rfl
         · rw [decide_eq_true q1,decide_eq_true q2,decide_eq_true q3,decide_eq_false q4,if_neg]
           · rfl
           · rintro (g | g | g | g)
             · omega
             · rcases q2 with q | q | q
               · exact g.1 q
               · exact g.2.1 q
               · exact g.2.2 q
             · omega
             · cases g.2
     · cases q5 : eqR n.ref Rf.zero
       · rw [if_pos (.inr (.inr (.inl ⟨by omega,by omega,rfl⟩))),decide_eq_false q3,Bool.or_false,Bool.false_and,Bool.and_false,Bool.and_false];rfl
       · cases q6:eqR n.zto Rf.zero
         · rw [if_pos (.inr (.inr (.inr ⟨by omega,rfl⟩))),decide_eq_false (show ¬ n.kind=6 by omega),Bool.or_false,Bool.and_false,Bool.and_false,Bool.and_false];rfl
         · rw [decide_eq_true q1,decide_eq_true q2,decide_eq_false q3,if_neg]
           · cases decide (n.kind=6) <;> rfl
           · rintro (g | g | g | g)
             · omega
             · rcases q2 with q | q | q
               · exact g.1 q
               · exact g.2.1 q
               · exact g.2.2 q
             · cases g.2.2
             · cases g.2
   · rw [if_pos (.inr (.inl ⟨fun h=>q2 (.inl h),fun h=>q2 (.inr (.inl h)),fun h=>q2 (.inr (.inr h))⟩)),decide_eq_false q2,Bool.false_and,Bool.and_false];rfl
 · rw [if_pos (.inl ⟨fun h=>q1 (.inl h),fun h=>q1 (.inr (.inl h)),fun h=>q1 (.inr (.inr h))⟩),decide_eq_false q1];rfl
theorem kids_eq (n:Nd) (m:Nat):(okF n&&hkB n.kind m)=(ok2 n&&(decide (armsN n.kind = -1)||decide (armsN n.kind=m))):=by
 have c0:decide ((0:Int)=(m:Int))=decide (m=0):=by rw [decide_eq_decide];omega
 have c1:decide ((1:Int)=(m:Int))=decide (m=1):=by rw [decide_eq_decide];omega
 have c2:decide ((2:Int)=(m:Int))=decide (m=2):=by rw [decide_eq_decide];omega
 have c3:decide ((-2:Int)=(m:Int))=false:=by rw [decide_eq_false_iff_not];omega
 unfold okF ok2 hkB armsN twoB
 by_cases h1:n.kind=1
 · rw [if_pos h1,if_pos h1,if_neg (show ¬ n.kind=7 by omega),if_neg (show ¬ n.kind=8 by omega),decide_eq_false (show ¬ (9≤n.kind∧n.kind≤19) by omega),if_pos (show 1≤n.kind∧n.kind≤6 by omega),c0];rfl
 by_cases h2:n.kind=2
 · rw [if_neg h1,if_pos h2,if_neg h1,if_pos h2,if_neg (show ¬ n.kind=7 by omega),if_neg (show ¬ n.kind=8 by omega),decide_eq_false (show ¬ (9≤n.kind∧n.kind≤19) by omega),if_pos (show 1≤n.kind∧n.kind≤6 by omega),c0];rfl
 by_cases h3:n.kind=3
 · rw [if_neg h1,if_neg h2,if_pos h3,if_neg h1,if_neg h2,if_pos h3,if_neg (show ¬ n.kind=7 by omega),if_neg (show ¬ n.kind=8 by omega),decide_eq_false (show ¬ (9≤n.kind∧n.kind≤19) by omega),if_pos (show 1≤n.kind∧n.kind≤6 by omega),c0];rfl
 by_cases h5:n.kind=5
 · rw [if_neg h1,if_neg h2,if_neg h3,if_pos h5,if_neg h1,if_neg h2,if_neg h3,if_pos h5,if_neg (show ¬ n.kind=7 by omega),if_neg (show ¬ n.kind=8 by omega),decide_eq_false (show ¬ (9≤n.kind∧n.kind≤19) by omega),if_pos (show 1≤n.kind∧n.kind≤6 by omega),c0];rfl
 by_cases h6:n.kind=6
 · rw [if_neg h1,if_neg h2,if_neg h3,if_neg h5,if_pos h6,if_neg h1,if_neg h2,if_neg h3,if_neg h5,if_pos h6,if_neg (show ¬ n.kind=7 by omega),if_neg (show ¬ n.kind=8 by omega),decide_eq_false (show ¬ (9≤n.kind∧n.kind≤19) by omega),if_pos (show 1≤n.kind∧n.kind≤6 by omega),c0];rfl
 by_cases h7:n.kind=7
 · rw [if_neg h1,if_neg h2,if_neg h3,if_neg h5,if_neg h6,if_pos h7,if_neg h1,if_neg h2,if_neg h3,if_neg h5,if_neg h6,if_pos h7,if_pos h7,if_neg (show ¬ (1≤n.kind∧n.kind≤6) by omega),if_pos h7];rfl
 rw [if_neg h1,if_neg h2,if_neg h3,if_neg h5,if_neg h6,if_neg h7,if_neg h1,if_neg h2,if_neg h3,if_neg h5,if_neg h6,if_neg h7,if_neg h7,Bool.true_and]
 by_cases h8:n.kind=8
 · rw [if_pos h8,if_neg (show ¬ (1≤n.kind∧n.kind≤6) by omega),if_neg h7,if_pos h8,c1,decide_eq_true (show n.kind=4∨n.kind=8 by omega)];rfl
 by_cases h9:9≤n.kind∧n.kind≤19
 · rw [if_neg h8,if_neg (show ¬ (1≤n.kind∧n.kind≤6) by omega),if_neg h7,if_neg h8,if_pos h9,c2,decide_eq_true h9,if_pos rfl,Bool.or_true];rfl
 by_cases h4:n.kind=4
 · rw [if_neg h8,if_pos (show 1≤n.kind∧n.kind≤6 by omega),c0,decide_eq_true (show n.kind=4∨n.kind=8 by omega),decide_eq_false h9];rfl
 rw [if_neg h8,if_neg (show ¬ (1≤n.kind∧n.kind≤6) by omega),if_neg h7,if_neg h8,if_neg h9,c3,decide_eq_false (show ¬ (n.kind=4∨n.kind=8) by omega),decide_eq_false h9];rfl
theorem isNd_eq (n:Nd):isNd n n.kids.length=nodeB n:=by
 unfold isNd nodeB
 rw [named_num,named_text,named_ref,named_to,leaf_eq]
 have h:=kids_eq n n.kids.length
 revert h
 generalize (decide (armsN n.kind = -1)||decide (armsN n.kind=n.kids.length))=d
 generalize hkB n.kind n.kids.length=c
 cases okF n <;> cases ok2 n <;> cases c <;> cases d <;> cases cNum n <;> cases cText n <;> cases cRef n <;> cases cTo n <;> simp
def SI (w:World) (B:Nat) (v:Value) (xs:List Int):Prop :=
 ∃ A cap,v = .slice A xs.length cap∧xs.length≤cap∧cap≤maxLen∧(xs=[]∨∃ pb po,A=some ⟨pb,po,none⟩∧pb<B∧∀ (j:Nat) (x:Int),xs[j]? = some x→w.cell? ⟨pb,po+j,none⟩=some (.int .i64 x))
theorem SI.below {w w':World} {B C:Nat} {v:Value} {xs:List Int} (h:SI w B v xs) (hb:Below C w w') (hC:B≤C):SI w' B v xs:=by
 obtain ⟨A,cap,h1,h2,h3,h4⟩:=h
 refine ⟨A,cap,h1,h2,h3,h4.imp id ?_⟩
 rintro ⟨pb,po,e1,e2,e3⟩
 exact ⟨pb,po,e1,e2,fun j x hj=>(hb.cell (p:=⟨pb,po+j,none⟩) (by show pb<C;omega)).trans (e3 j x hj)⟩
theorem SI.mono {w:World} {B C:Nat} {v:Value} {xs:List Int} (h:SI w B v xs) (hC:B≤C):SI w C v xs:=by
 obtain ⟨A,cap,h1,h2,h3,h4⟩:=h
 refine ⟨A,cap,h1,h2,h3,h4.imp id ?_⟩
 rintro ⟨pb,po,e1,e2,e3⟩
 exact ⟨pb,po,e1,by omega,e3⟩
theorem own_at {w:World} {base g n cap:Nat} {st:List Int} (h:Own (encInt .i64) 3 w base (.slice (some ⟨g,0,none⟩) n cap) st) (j:Nat) (x:Int) (hj:st[j]? = some x):w.cell? ⟨g,j,none⟩=some (.int .i64 x):=by
 have hl:=(List.getElem?_eq_some_iff.1 hj).1
 have h1:=Own.intCell h j hl
 rw [List.getD_eq_getElem?_getD,hj] at h1;exact h1
theorem SI.tail {w:World} {base g cap:Nat} {st:List Int} (h:Own (encInt .i64) 3 w base (.slice (some ⟨g,0,none⟩) st.length cap) st) (f:Nat) (hf:f≤st.length) (hc:st.length≤cap) (hm:cap≤maxLen) (hg:g<w.heap.size):SI w w.heap.size (.slice (if cap=f then some ⟨g,0,none⟩ else some ⟨g,f,none⟩) (st.length - f) (cap - f)) (st.drop f):=by
 refine ⟨_,_,by rw [List.length_drop],by rw [List.length_drop];omega,by omega, ?_⟩
 by_cases h0:st.drop f=[]
 · exact .inl h0
 · have hne:¬ cap=f:=fun e=>h0 (List.drop_of_length_le (by omega))
   refine .inr ⟨g,f,by rw [if_neg hne],hg,fun j x hj => ?_⟩
   rw [List.getElem?_drop] at hj
   exact own_at h (f+j) x hj
theorem own_take {w:World} {base g cap:Nat} {st:List Int} (h:Own (encInt .i64) 3 w base (.slice (some ⟨g,0,none⟩) st.length cap) st) (k:Nat) (hk:k≤st.length):Own (encInt .i64) 3 w base (.slice (some ⟨g,0,none⟩) k cap) (st.take k):=by
 have hl:(st.take k).length=k:=by rw [List.length_take];omega
 rcases h.2 with ⟨h1,_⟩ | ⟨g',cap',cur,h1,h2,h3,h4,h5,h6,h7⟩
 · cases h1
 · injection h1 with e1 e2 e3
   injection e1 with e1;injection e1 with e1
   subst e1;subst e3
   refine ⟨by rw [Enc.length_all],.inr ⟨g,cap,cur,by rw [hl],h2,h3,by omega,h5,h6, ?_⟩⟩
   rw [hl,all_encInt,List.map_take, ← all_encInt, ← h7,List.take_take,Nat.mul_one,Nat.mul_one]
   congr 1;omega
theorem take_snoc {xs ys:List Int} {k:Nat} {x:Int} (h:xs.take k=ys.take k) (hx:xs[k]? = some x) (hy:ys[k]? = some x):xs.take (k+1)=ys.take (k+1):=by
 rw [List.take_add_one,List.take_add_one,h,hx,hy]
set_option maxRecDepth 100000 in
set_option maxHeartbeats 1600000 in
theorem equal_any (w:World) (B:Nat) (v1 v2:Value) (xs ys:List Int) (h1:SI w B v1 xs) (h2:SI w B v2 ys):Calls Tryz.prog 83 #[v1,v2] w fun e w'=>e = .returned (.bool (decide (xs=ys)))∧Below w.heap.size w w':=by
 obtain ⟨A1,cap1,rfl,hc1,hm1,a1⟩:=h1
 obtain ⟨A2,cap2,rfl,hc2,hm2,a2⟩:=h2
 unfold maxLen at hm1 hm2
 obtain ⟨n1,hn1⟩:∃ n1,xs.length=n1:=⟨_,rfl⟩
 obtain ⟨n2,hn2⟩:∃ n2,ys.length=n2:=⟨_,rfl⟩
 rw [hn1] at hc1 ⊢
 rw [hn2] at hc2 ⊢
 by_cases hl:n1=n2
 · subst hl
   have HA1:=Lib.hid a1;have HA2:=Lib.hid a2;have HN1:=Lib.hid hn1;have HN2:=Lib.hid hn2
   clear a1 a2 hn1 hn2
   go_enter Tryz.func83,Tryz.ntmps83
   go_upto_region 4 with (fail)
   go_loopw [13] (fun i wr=>∃ (k m:Nat),k≤n1∧i = .int .i64 (k:Int)∧Hid (xs.take k=ys.take k)∧w.drewN m=wr)
    (fun i _=>n1 - (intOf i).toNat)
   case atStart=>exact ⟨0,0,Nat.zero_le _,rfl,Lib.hid rfl,rfl⟩
   case round =>
    obtain ⟨k,m,hk,rfl,HT,rfl⟩:=hrel
    by_cases hlt:k<n1
    · have hki:(k:Int)<(n1:Int):=by omega
      obtain ⟨x,hx⟩:∃ x,xs[k]? = some x:=⟨_,List.getElem?_eq_getElem (by rw [HN1.out];exact hlt)⟩
      obtain ⟨y,hy⟩:∃ y,ys[k]? = some y:=⟨_,List.getElem?_eq_getElem (by rw [HN2.out];exact hlt)⟩
      rcases HA1.out with e | ⟨p1,o1,rfl, -,c1⟩
      · exfalso;rw [e] at hx;simp at hx
      rcases HA2.out with e | ⟨p2,o2,rfl, -,c2⟩
      · exfalso;rw [e] at hy;simp at hy
      have k1:=c1 k x hx
      have k2:=c2 k y hy
      have HX:=Lib.hid hx;have HY:=Lib.hid hy
      clear c1 c2 hx hy
      by_cases hxy:x=y
      · have ex:(x != y)=false:=by rw [hxy];simp
        have HT2:=Lib.hid (take_snoc HT.out HX.out (by rw [hxy];exact HY.out))
        clear hxy
        go_wp2_with fail
        go_quiet (fail)
        go_wp2_with fail
        go_roundw
        case rel=>exact ⟨k+1,_,by omega,by go_num,HT2,by first | rfl | trivial⟩
        case measure=>simp [intOf];omega
      · have ex:(x != y)=true:=by rw [bne_iff_ne];exact hxy
        have HR:=Lib.hid (show ¬ xs=ys from fun e=>hxy (by have h1:=HX.out;rw [e,HY.out] at h1;exact (Option.some.inj h1).symm))
        clear hxy
        go_wp2_with fail
        go_quiet (fail)
        go_wp2_with fail
        go_ret
        exact ⟨by rw [decide_eq_false HR.out] <;> rfl,drew_below (drew_below (Below.refl _ _) m) nq⟩
    · have hki:¬ (k:Int)<(n1:Int):=by omega
      have HR:=Lib.hid (show xs=ys by
       have h1:=HT.out
       rw [List.take_of_length_le (by rw [HN1.out];omega),List.take_of_length_le (by rw [HN2.out];omega)] at h1
       exact h1)
      go_wp2_with fail
      go_ret
      exact ⟨by rw [decide_eq_true HR.out] <;> rfl,drew_below (Below.refl _ _) m⟩
 · have hne:((n1:Int) != (n2:Int))=true:=by rw [bne_iff_ne];omega
   have HR:=Lib.hid (show ¬ xs=ys from fun e=>hl (by rw [← hn1, ← hn2,e]))
   clear a1 a2 hn1 hn2
   go_enter Tryz.func83,Tryz.ntmps83
   go_wp2_with fail
   go_ret
   exact ⟨by rw [decide_eq_false HR.out] <;> rfl,Below.refl _ _⟩
def SN (w:World) (B:Nat) (v:Value) (vs:List (Nd × Value)):Prop :=
 (∃ A cap,v = .slice A vs.length cap∧(vs=[]∨∃ pb po,A=some ⟨pb,po,none⟩∧pb<B∧∀ (i:Nat) (n:Nd) (k:Value),vs[i]? = some (n,k)→∀ j,j<14→w.cell? ⟨pb,po+i*14+j,none⟩=(nodA n k).toList[j]?))∧∀ p∈vs,SI w B p.2 p.1.kids
def SZ (vs:List (Nd × Value)):Prop:=vs.length≤1000∧∀ p∈vs,p.1.text.size≤1000000∧p.1.ref.sh.size≤1000000∧p.1.zto.sh.size≤1000000
theorem SN.cellAt {w:World} {B:Nat} {A:Option Addr} {L cap:Nat} {vs:List (Nd × Value)} (h:SN w B (.slice A L cap) vs) {i:Nat} {n:Nd} {k:Value} (hi:vs[i]? = some (n,k)):SI w B k n.kids∧∃ pb po,A=some ⟨pb,po,none⟩∧pb<B∧∀ j,j<14→w.cell? ⟨pb,po+i*14+j,none⟩=(nodA n k).toList[j]? := by
 obtain ⟨⟨A',cap',h1,h2⟩,h3⟩:=h
 injection h1 with e1 e2 e3
 subst e1
 refine ⟨h3 _ (List.mem_of_getElem? hi), ?_⟩
 rcases h2 with rfl | ⟨pb,po,e1,e2,e3⟩
 · simp at hi
 · exact ⟨pb,po,e1,e2,e3 i n k hi⟩
def orS (a b:ByteArray):ByteArray:=if a=⟨#[]⟩ then b else a
theorem empty_ne (a:ByteArray) (h:¬ a=⟨#[]⟩):a.toList.isEmpty=false:=by
 rw [List.isEmpty_eq_false_iff]
 intro e
 rw [ByteArray.toList_eq] at e
 cases a with
 | mk d=>simp only [Array.toList_eq_nil_iff] at e;exact h (by rw [e])
set_option maxRecDepth 100000 in
set_option maxHeartbeats 1600000 in
theorem orS_any (a c:ByteArray) (w:World) (b:Nat) (h0:w.cell? ⟨b,0,none⟩=some (.string a)) (h1:w.cell? ⟨b,1,none⟩=some (.string c)) :
 Calls Tryz.prog 41 #[.slice (some ⟨b,0,none⟩) 2 2] w fun e w'=>e = .returned (.string (orS a c))∧w=w':=by
 go_enter Tryz.func41,Tryz.ntmps41
 go_upto_region 3 with (fail)
 go_loopw [8] (fun iv wr=>∃ i:Nat,i≤2∧iv = .int .i64 (i:Int)∧w=wr∧(0<i→a=⟨#[]⟩)∧(1<i→c=⟨#[]⟩))
  (fun iv _=>2 - (intOf iv).toNat)
 case atStart=>exact ⟨0,by omega,rfl,rfl,fun h=>absurd h (by decide),fun h=>absurd h (by decide)⟩
 case round =>
  obtain ⟨i,hi,rfl,rfl,ha,hc⟩:=hrel
  rcases (show i=0∨i=1∨i=2 by omega) with rfl | rfl | rfl
  · clear ha hc
    by_cases he:a=⟨#[]⟩
    · have HE:=Lib.hid he
      subst he
      go_wp2_with fail
      go_roundw
      case rel=>exact ⟨1,by omega,rfl,(by first | rfl | trivial),fun _=>(by first | rfl | trivial),fun h=>absurd h (by decide)⟩
      case measure=>simp [intOf]
    · have hne:=empty_ne a he
      have HR:=Lib.hid (show orS a c=a from if_neg he)
      clear he
      go_wp2_with fail
      go_ret
      exact ⟨by rw [HR.out];rfl,rfl⟩
  · have h:=ha (by decide)
    subst h
    clear ha hc
    by_cases he:c=⟨#[]⟩
    · subst he
      go_wp2_with fail
      go_roundw
      case rel=>exact ⟨2,by omega,rfl,(by first | rfl | trivial),fun _=>(by first | rfl | trivial),fun _=>(by first | rfl | trivial)⟩
      case measure=>simp [intOf]
    · have hne:=empty_ne c he
      clear he
      go_wp2_with fail
      go_ret
      exact ⟨rfl,rfl⟩
  · have h:=ha (by decide)
    have h2:=hc (by decide)
    subst h;subst h2
    clear ha hc
    go_wp2_with fail
    go_ret
    exact ⟨rfl,rfl⟩
def areaN (own:ByteArray) (n:Nd):List Ar:=if n.kind=5 then [⟨orS n.ref.sh own,n.ref,n.ref⟩] else if n.kind=6 then [⟨orS n.ref.sh own,n.ref,n.zto⟩] else []
def areasL (own:ByteArray) (ns:List Nd):List Ar:=ns.flatMap (areaN own)
theorem areasL_succ (own:ByteArray) (ns:List Nd) (i:Nat) (n:Nd) (h:ns[i]? = some n):areasL own (ns.take (i+1))=areasL own (ns.take i)++areaN own n:=by
 unfold areasL
 rw [List.take_add_one,h,List.flatMap_append]
 congr 1
 show List.flatMap _ [n]=_
 rw [List.flatMap_cons,List.flatMap_nil,List.append_nil]
theorem areasL_len (own:ByteArray):∀ ns:List Nd,(areasL own ns).length≤ns.length
 | []=>by simp [areasL]
 | n :: ns=>by
   have h:=areasL_len own ns
   have h1:(areaN own n).length≤1:=by unfold areaN;(repeat' split) <;> simp
   have h2:areasL own (n :: ns)=areaN own n++areasL own ns:=by unfold areasL;rw [List.flatMap_cons]
   rw [h2,List.length_append,List.length_cons];omega
set_option maxRecDepth 100000 in
set_option maxHeartbeats 16000000 in
theorem areasOf_any (w:World) (A:Option Addr) (nl cap:Nat) (l:List (Nd × Value)) (own:ByteArray) (h:SN w w.heap.size (.slice A nl cap) l) (hln:l.length=nl) (hn:nl≤1000) :
 Calls Tryz.prog 26 #[.slice A nl cap,.string own] w fun e w'=>Below w.heap.size w w'∧∃ v,e = .returned v∧Own encAr 103 w' w.heap.size v (areasL own (l.map (·.1))):=by
 have HX:=Lib.hid h;have HL:=Lib.hid hln
 clear h hln
 go_enter Tryz.func26,Tryz.ntmps26
 go_upto_region 3 with (fail)
 go_loopw [5,11] (fun lv iv wr=>∃ (i:Nat) (v:Value),i≤nl∧v=lv∧iv = .int .i64 (i:Int)∧Hid (Own encAr 103 wr w.heap.size v (areasL own ((l.map (·.1)).take i)))∧Hid (Below w.heap.size w wr))
  (fun _ iv _=>nl - (intOf iv).toNat)
 case atStart=>exact ⟨0,_,Nat.zero_le _,rfl,rfl,Lib.hid (Own.nil _ _ _ _),Lib.hid (Below.refl _ _)⟩
 case round =>
  obtain ⟨i,v,hi,rfl,rfl,HO,HR⟩:=hrel
  by_cases hlt:i<nl
  · have hii:(i:Int)<(nl:Int):=by omega
    have hi0:(0:Int)≤(i:Int):=by omega
    obtain ⟨⟨n,k⟩,hnk⟩:∃ q,l[i]? = some q:=⟨_,List.getElem?_eq_getElem (by rw [HL.out];exact hlt)⟩
    obtain ⟨hsk,pb,po,rfl,hpb,hcell⟩:=HX.out.cellAt hnk
    obtain ⟨Ak,ck,hkk,_,_,_⟩:=id hsk
    obtain ⟨m,hm⟩:∃ m,n.kids.length=m:=⟨_,rfl⟩
    rw [hm] at hkk
    subst hkk
    obtain ⟨k0,k1,k2,k3,k4,k5,k6,k7,k8,k9,k10,k11,k12,k13⟩:=cells14 HR.out hpb hcell
    have HNX:=Lib.hid (areasL_succ own (l.map (·.1)) i n (by rw [List.getElem?_map,hnk];rfl))
    have HLN:=Lib.hid (show (areasL own ((l.map (·.1)).take i)).length≤1000 by
     have h1:=areasL_len own ((l.map (·.1)).take i)
     rw [List.length_take] at h1;omega)
    clear hnk hsk hpb hcell hm
    have hB3:Below wr.heap.size wr (wr.alloc (.cells #[.int .i64 n.kind,.int .i64 n.num,.string n.text,.string n.ref.sh,.int .i64 n.ref.c,.int .i64 n.ref.r,.bool n.ref.ac,.bool n.ref.ar,.string n.zto.sh,.int .i64 n.zto.c,.int .i64 n.zto.r,.bool n.zto.ac,.bool n.zto.ar,.slice Ak m ck] 100)):=(Below.refl _ _).alloc (Nat.le_refl _) _
    have HN3:=Lib.hid (show NdAt (wr.alloc (.cells #[.int .i64 n.kind,.int .i64 n.num,.string n.text,.string n.ref.sh,.int .i64 n.ref.c,.int .i64 n.ref.r,.bool n.ref.ac,.bool n.ref.ar,.string n.zto.sh,.int .i64 n.zto.c,.int .i64 n.zto.r,.bool n.zto.ac,.bool n.zto.ar,.slice Ak m ck] 100)) wr.heap.size n (.slice Ak m ck) from NdAt.new wr n _)
    have HB3:=Lib.hid (HR.out.trans (hB3.mono HR.out.size))
    have HO3:=Lib.hid (HO.out.below hB3 (Nat.le_refl _))
    clear hB3
    go_upto_region 5 with (fail)
    clear k0 k1 k2 k3 k4 k5 k6 k7 k8 k9 k10 k11 k12 k13
    generalize hz:wr.heap.size=z at HN3 ⊢
    generalize wr.alloc (.cells #[.int .i64 n.kind,.int .i64 n.num,.string n.text,.string n.ref.sh,.int .i64 n.ref.c,.int .i64 n.ref.r,.bool n.ref.ac,.bool n.ref.ar,.string n.zto.sh,.int .i64 n.zto.c,.int .i64 n.zto.r,.bool n.zto.ac,.bool n.zto.ar,.slice Ak m ck] 100)=w3 at HN3 HB3 HO3 ⊢
    clear HO HR hz
    obtain ⟨y0,y1,y2,y3,y4,y5,y6,y7,y8,y9,y10,y11,y12,y13⟩:=HN3.out.cells
    obtain ⟨sn,hsn⟩:∃ sn,orS n.ref.sh own=sn:=⟨_,rfl⟩
    have hB4:Below w3.heap.size w3 (w3.alloc (.cells #[.string n.ref.sh,.string own] 9)):=(Below.refl _ _).alloc (Nat.le_refl _) _
    have HOR:=Lib.hid (orS_any n.ref.sh own (w3.alloc (.cells #[.string n.ref.sh,.string own] 9)) w3.heap.size (by rw [World.cell?_alloc_new];rfl) (by rw [World.cell?_alloc_new];rfl))
    rw [hsn] at HOR
    have HB5:=Lib.hid (HB3.out.trans (hB4.mono HB3.out.size))
    have HO5:=Lib.hid (HO3.out.below hB4 (Nat.le_refl _))
    have HN5:=Lib.hid (HN3.out.below hB4 HN3.out.lt)
    clear hB4
    go_upto_region 6 with (go_at_call 41;((with_reducible refine HOR.out.mono ?_);rintro e w9 ⟨rfl,rfl⟩))
    clear y0 y1 y2 y3 y4 y5 y6 y7 y8 y9 y10 y11 y12 y13
    generalize w3.alloc (.cells #[.string n.ref.sh,.string own] 9)=w5 at HB5 HO5 HN5 ⊢
    obtain ⟨z0,z1,z2,z3,z4,z5,z6,z7,z8,z9,z10,z11,z12,z13⟩:=HN5.out.cells
    by_cases h5:n.kind=5
    · have HAN:=Lib.hid (show areaN own n=[⟨sn,n.ref,n.ref⟩] by unfold areaN;rw [if_pos h5,hsn])
      clear hsn
      go_wp2_with (at_builtin;refine wpList_app Elem.ar encAr rfl (.tmp 25) (.tmp 32) rfl w.heap.size v _ rfl (HO5.out.below (below_ar w5 ⟨sn,n.ref,n.ref⟩) (Nat.le_refl _)) ⟨_,0,none⟩ 1 1 [⟨sn,n.ref,n.ref⟩] rfl rfl ?_ ?_ ?_ ?_ ?_;exact cells_new _ _ _ rfl;(have:=HLN.out;omega);(have:=HLN.out;unfold maxLen;omega);(have h2:=HB5.out.size;rw [World.size_alloc];omega);intro v6 w6 h1 h2;have HO6:=Lib.hid h1;have HB6:=Lib.hid (HB5.out.trans (((below_ar w5 ⟨sn,n.ref,n.ref⟩).mono HB5.out.size).trans h2));clear h1 h2)
      go_roundw
      case rel=>exact ⟨i+1,_,by omega,rfl,by go_num,Lib.hid (by rw [HNX.out,HAN.out];exact HO6.out),HB6⟩
      case measure=>simp [intOf];omega
    · by_cases h6:n.kind=6
      · have HAN:=Lib.hid (show areaN own n=[⟨sn,n.ref,n.zto⟩] by unfold areaN;rw [if_neg h5,if_pos h6,hsn])
        clear hsn
        go_wp2_with (at_builtin;refine wpList_app Elem.ar encAr rfl (.tmp 36) (.tmp 43) rfl w.heap.size v _ rfl (HO5.out.below (below_ar w5 ⟨sn,n.ref,n.zto⟩) (Nat.le_refl _)) ⟨_,0,none⟩ 1 1 [⟨sn,n.ref,n.zto⟩] rfl rfl ?_ ?_ ?_ ?_ ?_;exact cells_new _ _ _ rfl;(have:=HLN.out;omega);(have:=HLN.out;unfold maxLen;omega);(have h2:=HB5.out.size;rw [World.size_alloc];omega);intro v6 w6 h1 h2;have HO6:=Lib.hid h1;have HB6:=Lib.hid (HB5.out.trans (((below_ar w5 ⟨sn,n.ref,n.zto⟩).mono HB5.out.size).trans h2));clear h1 h2)
        go_roundw
        case rel=>exact ⟨i+1,_,by omega,rfl,by go_num,Lib.hid (by rw [HNX.out,HAN.out];exact HO6.out),HB6⟩
        case measure=>simp [intOf];omega
      · have HAN:=Lib.hid (show areaN own n=[] by unfold areaN;rw [if_neg h5,if_neg h6])
        clear hsn
        have k5:(n.kind == 5)=false:=beq_eq_false_iff_ne.2 h5
        have k6:(n.kind == 6)=false:=beq_eq_false_iff_ne.2 h6
        go_wp2_with fail
        go_roundw
        case rel=>exact ⟨i+1,_,by omega,rfl,by go_num,Lib.hid (by rw [HNX.out,HAN.out,List.append_nil];exact HO5.out),HB5⟩
        case measure=>simp [intOf];omega
  · have hii:¬ (i:Int)<(nl:Int):=by omega
    have HE:=Lib.hid (show (l.map (·.1)).take i=l.map (·.1) from List.take_of_length_le (by rw [List.length_map,HL.out];omega))
    go_wp2_with fail
    go_ret
    exact ⟨HR.out,_,rfl,by have h:=HO.out;rw [HE.out] at h;exact h⟩
end Go.Proofs.YtnahgpjglooclaaGreatDoor
namespace Go.Proofs.YtnahgpjglooclaaGreatDoor
open Go.RowKit
theorem Elem.tx:Elem Tryz.prog 26 9 1 16:=⟨Tryz.underlying26,⟨.string ⟨#[]⟩,by kernel_rfl,rfl⟩,by decide⟩
end Go.Proofs.YtnahgpjglooclaaGreatDoor
namespace Go.Proofs
open Go.Shelf
def Tryz.lays190_ren:Go.Shelf.Ren:=⟨fun | 190=>42 | 125=>69 | 258=>68 | 128=>99 | 129=>100 | 302=>90 | 303=>91 | 304=>92 | 305=>93 | 306=>94 | 307=>95 | 308=>96 | 309=>97 | 310=>98 | 333=>128 | 329=>129 | 330=>130 | 334=>131 | 335=>132 | 336=>133 | 344=>157 | n=>n,fun | 31=>26 | 9=>9 | 3=>3 | 46=>146 | 0=>0 | 51=>178 | 53=>37 | 4=>4 | 183=>171 | 182=>170 | 131=>56 | 5=>5 | 218=>190 | 222=>194 | 228=>209 | 229=>210 | n=>n,fun | n=>n⟩
theorem Tryz.lays190:Go.Proofs.Lays.n190 Tryz.prog Tryz.lays190_ren:={
 mixed:=by kernel_rfl
 f125:=Tryz.func69.trans (congrArg some (by kernel_rfl))
 f128:=Tryz.func99.trans (congrArg some (by kernel_rfl))
 f129:=Tryz.func100.trans (congrArg some (by kernel_rfl))
 f190:=Tryz.func42.trans (congrArg some (by kernel_rfl))
 f258:=Tryz.func68.trans (congrArg some (by kernel_rfl))
 f302:=Tryz.func90.trans (congrArg some (by kernel_rfl))
 f303:=Tryz.func91.trans (congrArg some (by kernel_rfl))
 f304:=Tryz.func92.trans (congrArg some (by kernel_rfl))
 f305:=Tryz.func93.trans (congrArg some (by kernel_rfl))
 f306:=Tryz.func94.trans (congrArg some (by kernel_rfl))
 f307:=Tryz.func95.trans (congrArg some (by kernel_rfl))
 f308:=Tryz.func96.trans (congrArg some (by kernel_rfl))
 f309:=Tryz.func97.trans (congrArg some (by kernel_rfl))
 f310:=Tryz.func98.trans (congrArg some (by kernel_rfl))
 f329:=Tryz.func129.trans (congrArg some (by kernel_rfl))
 f330:=Tryz.func130.trans (congrArg some (by kernel_rfl))
 f333:=Tryz.func128.trans (congrArg some (by kernel_rfl))
 f334:=Tryz.func131.trans (congrArg some (by kernel_rfl))
 f335:=Tryz.func132.trans (congrArg some (by kernel_rfl))
 f336:=Tryz.func133.trans (congrArg some (by kernel_rfl))
 f344:=Tryz.func157.trans (congrArg some (by kernel_rfl))
 t0:=Tryz.underlying0
 a0:=Tryz.isAgg0
 z0:=Tryz.sizeOf0
 v0:=Tryz.zeroValue0
 t3:=Tryz.underlying3
 a3:=Tryz.isAgg3
 z3:=Tryz.sizeOf3
 v3:=Tryz.zeroValue3
 t4:=Tryz.underlying4
 a4:=Tryz.isAgg4
 z4:=Tryz.sizeOf4
 v4:=Tryz.zeroValue4
 t5:=Tryz.underlying5
 a5:=Tryz.isAgg5
 z5:=Tryz.sizeOf5
 v5:=Tryz.zeroValue5
 t9:=Tryz.underlying9
 a9:=Tryz.isAgg9
 z9:=Tryz.sizeOf9
 v9:=Tryz.zeroValue9
 t31:=Tryz.underlying26
 a31:=Tryz.isAgg26
 z31:=Tryz.sizeOf26
 v31:=Tryz.zeroValue26
 t46:=Tryz.underlying146
 a46:=Tryz.isAgg146
 z46:=Tryz.sizeOf146
 v46:=Tryz.zeroValue146
 t51:=Tryz.underlying178
 a51:=Tryz.isAgg178
 z51:=Tryz.sizeOf178
 v51:=Tryz.zeroValue178
 t53:=Tryz.underlying37
 a53:=Tryz.isAgg37
 z53:=Tryz.sizeOf37
 v53:=Tryz.zeroValue37
 t131:=Tryz.underlying56
 a131:=Tryz.isAgg56
 z131:=Tryz.sizeOf56
 v131:=Tryz.zeroValue56
 t182:=Tryz.underlying170
 a182:=Tryz.isAgg170
 z182:=Tryz.sizeOf170
 v182:=Tryz.zeroValue170
 t183:=Tryz.underlying171
 a183:=Tryz.isAgg171
 z183:=Tryz.sizeOf171
 v183:=Tryz.zeroValue171
 t218:=Tryz.underlying190
 a218:=Tryz.isAgg190
 z218:=Tryz.sizeOf190
 v218:=Tryz.zeroValue190
 t222:=Tryz.underlying194
 a222:=Tryz.isAgg194
 z222:=Tryz.sizeOf194
 v222:=Tryz.zeroValue194
 t228:=Tryz.underlying209
 a228:=Tryz.isAgg209
 z228:=Tryz.sizeOf209
 v228:=Tryz.zeroValue209
 t229:=Tryz.underlying210
 a229:=Tryz.isAgg210
 z229:=Tryz.sizeOf210
 v229:=Tryz.zeroValue210 }
open Go.Sort Go.RowKit in
theorem Tryz.slices_Sort_string (blk off cap:Nat) (ss:List (List UInt8)) (w:World) (hH:Holds encStr w blk off ss.toArray) (hblk:blk<w.heap.size) (hsz:ss.length<4611686018427387904) :
 Calls Tryz.prog 42 #[.slice (some ⟨blk,off,none⟩) ss.length cap] w fun e w' =>
  e = .returned (.tuple #[])∧∃ n os,w'=grow (putRow encStr (Sort.ahead w n) blk off (ss.mergeSort fun x y=>decide (x≤y)).toArray) os:=Any.slices_Sort_string Tryz.lays190 blk off cap ss w hH hblk hsz
def Tryz.lays194_ren:Go.Shelf.Ren:=⟨fun | 194=>43 | n=>n,fun | 31=>26 | 9=>9 | 3=>3 | 4=>4 | 0=>0 | n=>n,fun | n=>n⟩
theorem Tryz.lays194:Go.Proofs.Lays.n194 Tryz.prog Tryz.lays194_ren:={
 mixed:=by kernel_rfl
 f194:=Tryz.func43.trans (congrArg some (by kernel_rfl))
 t0:=Tryz.underlying0
 a0:=Tryz.isAgg0
 z0:=Tryz.sizeOf0
 v0:=Tryz.zeroValue0
 t3:=Tryz.underlying3
 a3:=Tryz.isAgg3
 z3:=Tryz.sizeOf3
 v3:=Tryz.zeroValue3
 t4:=Tryz.underlying4
 a4:=Tryz.isAgg4
 z4:=Tryz.sizeOf4
 v4:=Tryz.zeroValue4
 t9:=Tryz.underlying9
 a9:=Tryz.isAgg9
 z9:=Tryz.sizeOf9
 v9:=Tryz.zeroValue9
 t31:=Tryz.underlying26
 a31:=Tryz.isAgg26
 z31:=Tryz.sizeOf26
 v31:=Tryz.zeroValue26 }
open Go.RowKit Go.Lib Go.Sort in
theorem Tryz.slices_Compact_string (blk off cap:Nat) (zs:List (List UInt8)) (w:World) (hH:Holds encStr w blk off zs.toArray) (hsz:zs.length≤9223372036854775807) (hcap:zs.length≤cap) :
 Calls Tryz.prog 43 #[.slice (some ⟨blk,off,none⟩) zs.length cap] w fun e w'=>e = .returned (.slice (some ⟨blk,off,none⟩) (Lib.compact zs).length cap)∧∃ q,w'=putRow encStr (Sort.ahead w q) blk off (Lib.compact zs++List.replicate (zs.length - (Lib.compact zs).length) []).toArray:=Any.slices_Compact_string Tryz.lays194 blk off cap zs w hH hsz hcap
end Go.Proofs
namespace Go.Proofs.YtnahgpjglooclaaGreatDoor
open Go.RowKit Go.Sort
def tol (b:ByteArray):List UInt8:=b.data.toList
def bao (l:List UInt8):ByteArray:=⟨l.toArray⟩
theorem all_enc (xs:List ByteArray):encTx.all xs=(xs.map tol).map encStr:=by
 rw [all_encTx,List.map_map]
 apply List.map_congr_left
 intro b _
 show Value.string b=Value.string ⟨b.data.toList.toArray⟩
 simp
theorem all_bao (zs:List (List UInt8)):encTx.all (zs.map bao)=zs.map encStr:=by
 rw [all_encTx,List.map_map];rfl
def sortB (xs:List ByteArray):List ByteArray:=((xs.map tol).mergeSort fun x y=>decide (x≤y)).map bao
def compB (xs:List ByteArray):List ByteArray:=(Lib.compact (xs.map tol)).map bao
theorem sortB_len (xs:List ByteArray):(sortB xs).length=xs.length:=by unfold sortB;rw [List.length_map,List.length_mergeSort,List.length_map]
theorem sortTx_any (w:World) (base g cap:Nat) (xs:List ByteArray) (h:Own encTx 9 w base (.slice (some ⟨g,0,none⟩) xs.length cap) xs) (hn:xs.length≤1000) :
 Calls Tryz.prog 42 #[.slice (some ⟨g,0,none⟩) xs.length cap] w fun e w'=>e = .returned (.tuple #[])∧Own encTx 9 w' base (.slice (some ⟨g,0,none⟩) xs.length cap) (sortB xs)∧w.grownBy w' (some g):=by
 rcases h.2 with ⟨h1,_⟩ | ⟨g',cap',cur,h1,hbase,hb,h2,h3,h4,h5⟩
 · cases h1
 · injection h1 with e1 e2 e3
   injection e1 with e1;injection e1 with e1
   subst e1;subst e3
   rw [Nat.mul_one,all_enc] at h5
   have hss:(xs.map tol).length=xs.length:=List.length_map ..
   have hH:Holds encStr w g 0 (xs.map tol).toArray:=holds_of_block hb (by rw [hss];exact h5)
   have hs:=Tryz.slices_Sort_string g 0 cap (xs.map tol) w hH (Array.getElem?_eq_some_iff.1 hb).1 (by rw [hss];omega)
   rw [hss] at hs
   refine hs.mono fun e w' hq => ?_
   obtain ⟨he,n,os,rfl⟩:=hq
   refine ⟨he, ?_,grownBy_sorted _⟩
   have ho:=ownsRow_sorted (n:=n) (os:=os) (ss:=xs.map tol) (ts:=(xs.map tol).mergeSort fun x y=>decide (x≤y)) (by rw [List.length_mergeSort]) hbase hb (by rw [hss];exact h2) h3 h4
   rw [hss] at ho
   unfold Own
   rw [sortB_len]
   unfold sortB
   rw [all_bao]
   exact ho
theorem own_first {w:World} {base g n cap m:Nat} {e:TypeId} {cs:List Value} (h:w.ownsRow base e 1 (.slice (some ⟨g,0,none⟩) n cap) n cs) (hm:m≤n):w.ownsRow base e 1 (.slice (some ⟨g,0,none⟩) m cap) m (cs.take m):=by
 obtain ⟨hl,h⟩:=h
 refine ⟨by rw [List.length_take];omega, ?_⟩
 rcases h with ⟨h1,_⟩ | ⟨g',cap',cur,h1,hbase,hb,h2,h3,h4,h5⟩
 · cases h1
 · injection h1 with e1 e2 e3
   injection e1 with e1;injection e1 with e1
   subst e1;subst e3
   refine .inr ⟨g,cap,cur,rfl,hbase,hb,by omega,h3,h4, ?_⟩
   rw [← h5,List.take_take]
   congr 1;omega
theorem cup_le (d:Array (List UInt8)):∀ m,(Lib.compactUpTo d m).length≤m
 | 0=>Nat.le_refl _
 | m+1=>by
   have h:=cup_le d m
   rw [Lib.compactUpTo_succ,List.length_append]
   split <;> simp <;> omega
theorem compact_le (zs:List (List UInt8)):(Lib.compact zs).length≤zs.length:=cup_le _ _
theorem compactTx_any (w:World) (base g cap:Nat) (xs:List ByteArray) (h:Own encTx 9 w base (.slice (some ⟨g,0,none⟩) xs.length cap) xs) :
 Calls Tryz.prog 43 #[.slice (some ⟨g,0,none⟩) xs.length cap] w fun e w'=>e = .returned (.slice (some ⟨g,0,none⟩) (compB xs).length cap)∧Own encTx 9 w' base (.slice (some ⟨g,0,none⟩) (compB xs).length cap) (compB xs)∧w.grownBy w' (some g):=by
 rcases h.2 with ⟨h1,_⟩ | ⟨g',cap',cur,h1,hbase,hb,h2,h3,h4,h5⟩
 · cases h1
 · injection h1 with e1 e2 e3
   injection e1 with e1;injection e1 with e1
   subst e1;subst e3
   rw [Nat.mul_one,all_enc] at h5
   have hss:(xs.map tol).length=xs.length:=List.length_map ..
   have hH:Holds encStr w g 0 (xs.map tol).toArray:=holds_of_block hb (by rw [hss];exact h5)
   have hs:=Tryz.slices_Compact_string g 0 cap (xs.map tol) w hH (by rw [hss];unfold maxLen at h3;omega) (by rw [hss];exact h2)
   rw [hss] at hs
   have hcl:(compB xs).length=(Lib.compact (xs.map tol)).length:=List.length_map ..
   have hle:=compact_le (xs.map tol)
   rw [hss] at hle
   refine hs.mono fun e w' hq => ?_
   obtain ⟨he,q,hw⟩:=hq
   have hw2:w'=grow (putRow encStr (Sort.ahead w q) g 0 (Lib.compact (xs.map tol)++List.replicate (xs.length - (Lib.compact (xs.map tol)).length) []).toArray) #[]:=by rw [hw,grow_empty]
   subst hw2
   refine ⟨by rw [he,hcl], ?_,grownBy_sorted _⟩
   have ho:=ownsRow_sorted (n:=q) (os:=#[]) (ss:=xs.map tol) (ts:=Lib.compact (xs.map tol)++List.replicate (xs.length - (Lib.compact (xs.map tol)).length) []) (by rw [List.length_append,List.length_replicate,hss];omega) hbase hb (by rw [hss];exact h2) h3 h4
   rw [hss] at ho
   have ho2:=own_first ho hle
   rw [List.map_append,List.take_append_of_le_length (by rw [List.length_map];exact Nat.le_refl _),List.take_of_length_le (by rw [List.length_map];exact Nat.le_refl _)] at ho2
   unfold Own
   rw [hcl]
   unfold compB
   rw [all_bao]
   exact ho2
end Go.Proofs.YtnahgpjglooclaaGreatDoor
namespace Go.Proofs.YtnahgpjglooclaaGreatDoor
open Go.RowKit
theorem sortNil_any (w:World):Calls Tryz.prog 42 #[.slice none 0 0] w fun e w'=>e = .returned (.tuple #[])∧w'=w:=Any.slices_Sort_string_none Tryz.lays190 none 0 w
theorem compactNil_any (w:World):Calls Tryz.prog 43 #[.slice none 0 0] w fun e w'=>e = .returned (.slice none 0 0)∧w'=w:=Any.slices_Compact_string_empty Tryz.lays194 none 0 w
def namesL (l:List Ar):List ByteArray:=compB (sortB (l.map (·.sh)))
theorem namesL_nil:namesL []=[]:=by
 unfold namesL sortB compB
 simp [Lib.compact,Lib.compactUpTo]
theorem namesL_len (l:List Ar):(namesL l).length≤l.length:=by
 unfold namesL compB
 rw [List.length_map]
 have h:=compact_le ((sortB (l.map (·.sh))).map tol)
 rw [List.length_map,sortB_len,List.length_map] at h;exact h
set_option maxRecDepth 100000 in
set_option maxHeartbeats 4000000 in
theorem sheets_any (w:World) (A:Option Addr) (n cap:Nat) (l:List Ar) (h:ArsR w w.heap.size (.slice A n cap) l) (hn:n≤1000) :
 Calls Tryz.prog 27 #[.slice A n cap] w fun e w'=>Below w.heap.size w w'∧∃ v,e = .returned v∧Own encTx 9 w' w.heap.size v (namesL l):=by
 have HL:=Lib.hid h.len.1
 have HX:=Lib.hid h
 clear h
 go_enter Tryz.func27,Tryz.ntmps27
 go_upto_region 3 with (fail)
 go_loopw [3,8] (fun lv iv wr=>∃ (i:Nat) (v:Value),i≤n∧v=lv∧iv = .int .i64 (i:Int)∧Hid (Own encTx 9 wr w.heap.size v ((l.take i).map (·.sh)))∧Hid (i=0→v = .slice none 0 0)∧Hid (Below w.heap.size w wr))
  (fun _ iv _=>n - (intOf iv).toNat)
 case atStart=>exact ⟨0,_,Nat.zero_le _,rfl,rfl,Lib.hid (Own.nil _ _ _ _),Lib.hid (fun _=>rfl),Lib.hid (Below.refl _ _)⟩
 case round =>
  obtain ⟨i,v,hi,rfl,rfl,HO,HV,HR⟩:=hrel
  by_cases hlt:i<n
  · have hii:(i:Int)<(n:Int):=by omega
    have hi0:(0:Int)≤(i:Int):=by omega
    obtain ⟨a,ha⟩:∃ a,l[i]? = some a:=⟨_,List.getElem?_eq_getElem (by rw [HL.out];exact hlt)⟩
    obtain ⟨pb,po,rfl,hpb,hat⟩:=ar_at HX.out ha
    obtain ⟨x0,x1,x2,x3,x4,x5,x6,x7,x8,x9,x10⟩:=ar_over HR.out hpb hat
    have HTK:=Lib.hid (show (l.take (i+1)).map (·.sh)=(l.take i).map (·.sh)++[a.sh] by rw [List.take_add_one,ha,List.map_append];rfl)
    have HBD:=Lib.hid (show ((l.take i).map (·.sh)).length≤i by rw [List.length_map,List.length_take];omega)
    clear hat ha hpb
    have HB3:=Lib.hid (HR.out.trans ((below_ar wr a).mono HR.out.size))
    have HA3:=Lib.hid (ArAt.new wr a)
    have HO3:=Lib.hid (HO.out.below (below_ar wr a) (Nat.le_refl _))
    go_upto_region 5 with (fail)
    clear x0 x1 x2 x3 x4 x5 x6 x7 x8 x9 x10
    generalize hz:wr.heap.size=z at HA3 ⊢
    obtain ⟨w3,hw3⟩:∃ w3,wr.alloc (.cells (arA a) 103)=w3:=⟨_,rfl⟩
    rw [show wr.alloc (.cells #[.string a.sh,.string a.f.sh,.int .i64 a.f.c,.int .i64 a.f.r,.bool a.f.ac,.bool a.f.ar,.string a.l.sh,.int .i64 a.l.c,.int .i64 a.l.r,.bool a.l.ac,.bool a.l.ar] 103)=w3 from hw3]
    rw [hw3] at HB3 HA3 HO3
    obtain ⟨y0,y1,y2,y3,y4,y5,y6,y7,y8,y9,y10⟩:=HA3.out.cells
    clear hw3 hz HO HR
    go_wp2_with (at_builtin;refine wpList_app Elem.tx encTx rfl (.tmp 12) (.tmp 15) rfl w.heap.size v _ rfl (HO3.out.below ((Below.refl w3.heap.size w3).alloc (Nat.le_refl _) (.cells #[.string a.sh] 9)) (Nat.le_refl _)) ⟨_,0,none⟩ 1 1 [a.sh] rfl rfl ?_ ?_ ?_ ?_ ?_;exact cells_new _ _ _ rfl;(have:=HBD.out;omega);(have:=HBD.out;unfold maxLen;omega);(have h2:=HB3.out.size;rw [World.size_alloc];omega);intro v5 w5 h1 h2;have HO5:=Lib.hid h1;have HB5:=Lib.hid (HB3.out.trans ((((Below.refl w3.heap.size w3).alloc (Nat.le_refl _) (.cells #[.string a.sh] 9)).mono HB3.out.size).trans h2));clear h1 h2)
    go_roundw
    case rel=>exact ⟨i+1,_,by omega,rfl,by go_num,Lib.hid (by rw [HTK.out];exact HO5.out),Lib.hid (fun h=>absurd h (by omega)),HB5⟩
    case measure=>simp [intOf];omega
  · have hii:¬ (i:Int)<(n:Int):=by omega
    have hin:i=n:=by omega
    have HO2:=HO.out
    rw [List.take_of_length_le (by rw [HL.out];omega)] at HO2
    have HLN:=Lib.hid (show (l.map (·.sh)).length=n by rw [List.length_map,HL.out])
    clear HO
    rcases HO2.2 with ⟨hv,h0⟩ | ⟨g,cap2,cur,hv,hbase,hb,_⟩
    · subst hv
      have hl0:l=[]:=List.eq_nil_of_length_eq_zero (by rw [List.length_map] at h0;exact h0)
      have HN:=Lib.hid (show namesL l=[] by rw [hl0];exact namesL_nil)
      clear h0 hl0 HO2
      go_wp2_with (first
       | (go_at_call 42;((with_reducible refine (sortNil_any _).mono ?_);rintro e w2 ⟨rfl,rfl⟩))
       | (go_at_call 43;((with_reducible refine (compactNil_any _).mono ?_);rintro e w3 ⟨rfl,rfl⟩)))
      go_ret
      exact ⟨HR.out,_,rfl,by rw [HN.out];exact Own.nil _ _ _ _⟩
    · subst hv
      have HSO:=Lib.hid (sortTx_any wr w.heap.size g cap2 (l.map (·.sh)) HO2 (by rw [HLN.out];exact hn))
      have HGB:=Lib.hid hbase
      rw [HLN.out] at HSO ⊢
      clear hb HO2 hbase
      go_wp2_with (first
       | (go_at_call 42;((with_reducible refine HSO.out.mono ?_);rintro e w2 ⟨rfl,h1,h2⟩;have HR2:=Lib.hid (HR.out.grown h2 HR.out.size (fun q e=>by injection e with e;rw [← e];exact HGB.out));have HC:=(by have h:=compactTx_any w2 w.heap.size g cap2 (sortB (l.map (·.sh))) (by rw [sortB_len,HLN.out];exact h1);rw [sortB_len,HLN.out] at h;exact Lib.hid h);clear h1 h2))
       | (go_at_call 43;((with_reducible refine HC.out.mono ?_);rintro e w3 ⟨rfl,h1,h2⟩;have HR3:=Lib.hid (HR2.out.grown h2 HR2.out.size (fun q e=>by injection e with e;rw [← e];exact HGB.out));have HO3:=Lib.hid h1;clear h1 h2)))
      go_ret
      exact ⟨HR3.out,_,rfl,HO3.out⟩
theorem below_drawn {B:Nat} {w w':World} (h:Below B w w') (n:Nat):Below B w (w'.drewN n):=⟨h.os,h.tape,h.output,h.size,h.block⟩
theorem quiet_same {f:FuncId} {args:Array Value} {w:World} {n:Nat} {v:Value} (h:Calls Tryz.prog f args (w.drewN n) fun e w'=>e = .returned v∧w.drewN n=w'):Calls Tryz.prog f args (w.drewN n) fun e w''=>e = .returned v∧∃ m,w''=w.drewN m :=
 Calls.quiet_of_same (h.mono fun _ _ ⟨a,b⟩=>⟨a,b.symm⟩)
set_option maxHeartbeats 400000 in
theorem hasr_any (A:Option Addr) (n cap:Nat) (k:Int) (w:World):Calls Tryz.prog 66 #[.slice A n cap,.int .i64 k] w fun e w'=>e = .returned (.bool (decide (0≤k∧k<(n:Int))))∧w=w':=by
 go_enter Tryz.func66,Tryz.ntmps66
 go_wp2
 all_goals go_ret
 all_goals exact ⟨ret_bool (by first | rfl | (symm;rw [decide_eq_true_iff];omega) | (symm;rw [decide_eq_false_iff_not];omega) | (rw [decide_eq_decide];omega) | (simp <;> omega)),rfl⟩
set_option maxHeartbeats 400000 in
theorem hast_any (A:Option Addr) (n cap:Nat) (k:Int) (w:World):Calls Tryz.prog 67 #[.slice A n cap,.int .i64 k] w fun e w'=>e = .returned (.bool (decide (0≤k∧k<(n:Int))))∧w=w':=by
 go_enter Tryz.func67,Tryz.ntmps67
 go_wp2
 all_goals go_ret
 all_goals exact ⟨ret_bool (by first | rfl | (symm;rw [decide_eq_true_iff];omega) | (symm;rw [decide_eq_false_iff_not];omega) | (rw [decide_eq_decide];omega) | (simp <;> omega)),rfl⟩
def SpAt (w:World) (b:Nat) (nm:ByteArray) (row col:Int):Prop:=w.heap[b]? = some (.cells #[.string nm,.int .i64 row,.int .i64 col] 35)
theorem SpAt.new (w:World) (nm:ByteArray) (row col:Int):SpAt (w.alloc (.cells #[.string nm,.int .i64 row,.int .i64 col] 35)) w.heap.size nm row col:=(Go.MapKept.heap_alloc w _).1
theorem SpAt.lt {w:World} {b:Nat} {nm:ByteArray} {r c:Int} (h:SpAt w b nm r c):b<w.heap.size:=(Array.getElem?_eq_some_iff.1 h).1
theorem SpAt.below {w w':World} {b B:Nat} {nm:ByteArray} {r c:Int} (h:SpAt w b nm r c) (hb:Below B w w') (hB:b<B):SpAt w' b nm r c:=by unfold SpAt;rw [hb.block b hB];exact h
theorem SpAt.over {w w':World} {b:Nat} {nm:ByteArray} {r c:Int} (h:SpAt w b nm r c) (hb:Below w.heap.size w w'):SpAt w' b nm r c:=h.below hb h.lt
theorem SpAt.cells {w:World} {b:Nat} {nm:ByteArray} {r c:Int} (h:SpAt w b nm r c):w.cell? ⟨b,0,none⟩=some (.string nm)∧w.cell? ⟨b,1,none⟩=some (.int .i64 r)∧w.cell? ⟨b,2,none⟩=some (.int .i64 c) :=
 ⟨by rw [cell_of_row w b 0 _ _ _ h];rfl,by rw [cell_of_row w b 1 _ _ _ h];rfl,by rw [cell_of_row w b 2 _ _ _ h];rfl⟩
theorem below_sp (w:World) (nm:ByteArray) (row col:Int):Below w.heap.size w (w.alloc (.cells #[.string nm,.int .i64 row,.int .i64 col] 35)):=(Below.refl _ _).alloc (Nat.le_refl _) _
def SpotR (shs:List Sv) (nm:ByteArray) (row col:Int):Option (Nat × Sv × Nat × Rv × Nat)→Prop
 | none=>FindR shs nm none∨∃ i s,First shs nm i s∧(¬ (0≤row∧row<(s.rows.length:Int))∨∃ (r:Nat) (rv:Rv),row=(r:Int)∧s.rows[r]? = some rv∧¬ (0≤col∧col<(rv.l.length:Int)))
 | some (i,s,r,rv,c)=>First shs nm i s∧row=(r:Int)∧s.rows[r]? = some rv∧col=(c:Int)∧c<rv.l.length
def txO:Option (Nat × Sv × Nat × Rv × Nat)→ByteArray
 | none=>⟨#[]⟩
 | some (_,_,_,rv,c)=>rv.l.getD c ⟨#[]⟩
def AtO (w:World):Option (Nat × Sv × Nat × Rv × Nat)→Value→Prop
 | none,v=>v = .pointer none
 | some (_,_,_,rv,c),v=>∃ pb po,rv.A=some ⟨pb,po,none⟩∧v = .pointer (some ⟨pb,po+c,none⟩)∧pb<w.heap.size∧w.cell? ⟨pb,po+c,none⟩=some (.string (rv.l.getD c ⟨#[]⟩))
theorem two_blocks (w:World) (v:Value) (nm:ByteArray) (row col:Int):∃ w2,(w.alloc (.cells #[v] 32)).alloc (.cells #[.string nm,.int .i64 row,.int .i64 col] 35)=w2∧Below w.heap.size w w2∧BkAt w2 w.heap.size v∧SpAt w2 (w.heap.size+1) nm row col∧w2.heap.size=w.heap.size+2:=by
 refine ⟨_,rfl,(below_bk w v).trans ((below_sp (w.alloc (.cells #[v] 32)) nm row col).mono (below_bk w v).size),(BkAt.new w v).over (below_sp _ _ _ _), ?_,by rw [World.size_alloc,World.size_alloc]⟩
 have:=SpAt.new (w.alloc (.cells #[v] 32)) nm row col
 rwa [World.size_alloc] at this
set_option maxRecDepth 100000 in
set_option maxHeartbeats 4000000 in
theorem at_some (w:World) (A:Option Addr) (n cap:Nat) (shs:List Sv) (nm:ByteArray) (i:Nat) (s:Sv) (r:Nat) (rv:Rv) (c:Nat) (h:BkR w w.heap.size (.slice A n cap) shs) (hn:n≤1000000) (ho:SpotR shs nm r c (some (i,s,r,rv,c))) :
 Calls Tryz.prog 40 #[.agg #[.slice A n cap],.agg #[.string nm,.int .i64 r,.int .i64 c]] w fun e w'=>(∃ v,e = .returned v∧AtO w (some (i,s,r,rv,c)) v)∧Below w.heap.size w w':=by
 obtain ⟨hf, -,hrv, -,hc⟩:=ho
 obtain ⟨w2,hw2,hb,hbk,hsp,hsz⟩:=two_blocks w (.slice A n cap) nm r c
 obtain ⟨pb,po,hA,hpb,e0,e1,e2,hrows⟩:=sh_at h hf.1
 obtain ⟨qb,qo,hA2,hqb,f0,hrow⟩:=row_at hrows hrv
 obtain ⟨x,hx⟩:∃ x,rv.l[c]? = some x:=⟨_,List.getElem?_eq_getElem hc⟩
 obtain ⟨ub,uo,hA3,hub,g0⟩:=tx_at hrow hx
 have hin:=hf.1
 have hni:(i:Int)<(n:Int):=by have:=(List.getElem?_eq_some_iff.1 hin).1;have:=h.1.len.1;omega
 have hi0:(0:Int)≤(i:Int):=by omega
 have hr0:(0:Int)≤(r:Int):=by omega
 have hc0:(0:Int)≤(c:Int):=by omega
 have hrl:(r:Int)<(s.rows.length:Int):=by have:=(List.getElem?_eq_some_iff.1 hrv).1;omega
 have hcl:(c:Int)<(rv.l.length:Int):=by omega
 have HFI:=Lib.hid (show Calls Tryz.prog 28 #[.agg #[.slice A n cap],.string nm] w2 fun e w'=>e = .returned (.int .i64 (i:Int))∧Below w2.heap.size w2 w' from find_any w2 A n cap shs nm (some (i,s)) (h.lift hb) hn hf)
 have H1:=Lib.hid (fun w=>hasr_any s.A s.rows.length s.cap r w)
 have H2:=Lib.hid (fun w=>hast_any rv.A rv.l.length rv.cap c w)
 have d1:decide ((0:Int)≤(r:Int)∧(r:Int)<(s.rows.length:Int))=true:=decide_eq_true ⟨hr0,hrl⟩
 have d2:decide ((0:Int)≤(c:Int)∧(c:Int)<(rv.l.length:Int))=true:=decide_eq_true ⟨hc0,hcl⟩
 rw [d1] at H1;rw [d2] at H2
 have HOUT:=Lib.hid (show AtO w (some (i,s,r,rv,c)) (.pointer (some ⟨ub,uo+c,none⟩)) from ⟨ub,uo,hA3,rfl,hub,by rw [List.getD_eq_getElem?_getD,hx];exact g0⟩)
 obtain ⟨m,hm⟩:∃ m,s.rows.length=m:=⟨_,rfl⟩
 obtain ⟨k,hk⟩:∃ k,rv.l.length=k:=⟨_,rfl⟩
 rw [hm] at e2 H1 hrl;rw [hk] at f0 H2 hcl
 rw [hA2] at e2 H1;rw [hA3] at f0 H2
 subst hA
 have HB:=Lib.hid hb;have HBK:=Lib.hid hbk;have HSP:=Lib.hid hsp
 clear hf hrv hc hrows hrow g0 hx hin d1 d2 hm hk h hb hbk hsp
 go_enter Tryz.func40,Tryz.ntmps40
 go_upto_region 1 with (fail)
 clear hw2
 have b0:=HBK.out.cell
 obtain ⟨s0,s1,s2⟩:=HSP.out.cells
 go_upto_region 4 with (go_at_call 28;((with_reducible refine HFI.out.mono ?_);rintro e w3 ⟨rfl,h1⟩;have H3:=Lib.hid h1;clear h1))
 clear b0 s0 s1 s2
 have HB3:=Lib.hid (HB.out.trans (H3.out.mono HB.out.size))
 have b0:=(HBK.out.over H3.out).cell
 obtain ⟨s0,s1,s2⟩:=(HSP.out.over H3.out).cells
 have x0:w3.cell? ⟨pb,po+i*3,none⟩=some (.string s.nm):=(HB3.out.cell (p:=⟨pb,po+i*3,none⟩) hpb).trans e0
 have x1:w3.cell? ⟨pb,po+i*3+1,none⟩=some (.int .i64 s.cols):=(HB3.out.cell (p:=⟨pb,po+i*3+1,none⟩) hpb).trans e1
 have x2:w3.cell? ⟨pb,po+i*3+2,none⟩=some (.slice (some ⟨qb,qo,none⟩) m s.cap):=(HB3.out.cell (p:=⟨pb,po+i*3+2,none⟩) hpb).trans e2
 have y0:w3.cell? ⟨qb,qo+r,none⟩=some (.slice (some ⟨ub,uo,none⟩) k rv.cap):=(HB3.out.cell (p:=⟨qb,qo+r,none⟩) hqb).trans f0
 clear e0 e1 e2 f0
 go_upto_region 5 with (fail)
 go_quiet (first
  | (go_at_call 66;exact quiet_same (H1.out _))
  | (go_at_call 67;exact quiet_same (H2.out _)))
 go_wp2_with fail
 go_quiet (fail)
 go_wp2_with fail
 go_ret
 exact ⟨⟨_,rfl,HOUT.out⟩,below_drawn (below_drawn HB3.out _) _⟩
set_option maxRecDepth 100000 in
set_option maxHeartbeats 1600000 in
theorem at_nosheet (w:World) (A:Option Addr) (n cap:Nat) (shs:List Sv) (nm:ByteArray) (row col:Int) (h:BkR w w.heap.size (.slice A n cap) shs) (hn:n≤1000000) (ho:FindR shs nm none) :
 Calls Tryz.prog 40 #[.agg #[.slice A n cap],.agg #[.string nm,.int .i64 row,.int .i64 col]] w fun e w'=>e = .returned (.pointer none)∧Below w.heap.size w w':=by
 obtain ⟨w2,hw2,hb,hbk,hsp,hsz⟩:=two_blocks w (.slice A n cap) nm row col
 have HFI:=Lib.hid (show Calls Tryz.prog 28 #[.agg #[.slice A n cap],.string nm] w2 fun e w'=>e = .returned (.int .i64 (-1))∧Below w2.heap.size w2 w' from find_any w2 A n cap shs nm none (h.lift hb) hn ho)
 have HB:=Lib.hid hb;have HBK:=Lib.hid hbk;have HSP:=Lib.hid hsp
 clear h hb hbk hsp ho
 go_enter Tryz.func40,Tryz.ntmps40
 go_upto_region 1 with (fail)
 clear hw2
 have b0:=HBK.out.cell
 obtain ⟨s0,s1,s2⟩:=HSP.out.cells
 go_wp2_with (go_at_call 28;((with_reducible refine HFI.out.mono ?_);rintro e w3 ⟨rfl,h1⟩;have H3:=Lib.hid (HB.out.trans (h1.mono HB.out.size));clear h1))
 go_ret
 exact ⟨rfl,H3.out⟩
set_option maxRecDepth 100000 in
set_option maxHeartbeats 4000000 in
theorem at_out (w:World) (A:Option Addr) (n cap:Nat) (shs:List Sv) (nm:ByteArray) (row col:Int) (i:Nat) (s:Sv) (h:BkR w w.heap.size (.slice A n cap) shs) (hn:n≤1000000) (hf:First shs nm i s)
 (ho:¬ (0≤row∧row<(s.rows.length:Int))∨∃ (r:Nat) (rv:Rv),row=(r:Int)∧s.rows[r]? = some rv∧¬ (0≤col∧col<(rv.l.length:Int))) :
 Calls Tryz.prog 40 #[.agg #[.slice A n cap],.agg #[.string nm,.int .i64 row,.int .i64 col]] w fun e w'=>e = .returned (.pointer none)∧Below w.heap.size w w':=by
 obtain ⟨w2,hw2,hb,hbk,hsp,hsz⟩:=two_blocks w (.slice A n cap) nm row col
 obtain ⟨pb,po,hA,hpb,e0,e1,e2,hrows⟩:=sh_at h hf.1
 have hin:=hf.1
 have hni:(i:Int)<(n:Int):=by have:=(List.getElem?_eq_some_iff.1 hin).1;have:=h.1.len.1;omega
 have hi0:(0:Int)≤(i:Int):=by omega
 have HFI:=Lib.hid (show Calls Tryz.prog 28 #[.agg #[.slice A n cap],.string nm] w2 fun e w'=>e = .returned (.int .i64 (i:Int))∧Below w2.heap.size w2 w' from find_any w2 A n cap shs nm (some (i,s)) (h.lift hb) hn hf)
 have H1:=Lib.hid (fun w=>hasr_any s.A s.rows.length s.cap row w)
 obtain ⟨m,hm⟩:∃ m,s.rows.length=m:=⟨_,rfl⟩
 rw [hm] at e2 H1 ho
 subst hA
 have HB:=Lib.hid hb;have HBK:=Lib.hid hbk;have HSP:=Lib.hid hsp;have HROWS:=Lib.hid hrows;have HO:=Lib.hid ho
 clear hf hrows hin h hb hbk hsp ho
 go_enter Tryz.func40,Tryz.ntmps40
 go_upto_region 1 with (fail)
 clear hw2
 have b0:=HBK.out.cell
 obtain ⟨s0,s1,s2⟩:=HSP.out.cells
 go_upto_region 4 with (go_at_call 28;((with_reducible refine HFI.out.mono ?_);rintro e w3 ⟨rfl,h1⟩;have H3:=Lib.hid h1;clear h1))
 clear b0 s0 s1 s2
 have HB3:=Lib.hid (HB.out.trans (H3.out.mono HB.out.size))
 have b0:=(HBK.out.over H3.out).cell
 obtain ⟨s0,s1,s2⟩:=(HSP.out.over H3.out).cells
 have x0:w3.cell? ⟨pb,po+i*3,none⟩=some (.string s.nm):=(HB3.out.cell (p:=⟨pb,po+i*3,none⟩) hpb).trans e0
 have x1:w3.cell? ⟨pb,po+i*3+1,none⟩=some (.int .i64 s.cols):=(HB3.out.cell (p:=⟨pb,po+i*3+1,none⟩) hpb).trans e1
 have x2:w3.cell? ⟨pb,po+i*3+2,none⟩=some (.slice s.A m s.cap):=(HB3.out.cell (p:=⟨pb,po+i*3+2,none⟩) hpb).trans e2
 clear e0 e1 e2
 go_upto_region 5 with (fail)
 clear b0 x0 x1 x2
 by_cases hr:0≤row∧row<(m:Int)
 · rw [decide_eq_true hr] at H1
   obtain ⟨r,rv,rfl,hrv,hc⟩:=HO.out.resolve_left (fun h=>h hr)
   obtain ⟨qb,qo,hA2,hqb,f0,hrow⟩:=row_at HROWS.out hrv
   have y0:w3.cell? ⟨qb,qo+r,none⟩=some (.slice rv.A rv.l.length rv.cap):=(HB3.out.cell (p:=⟨qb,qo+r,none⟩) hqb).trans f0
   have H2:=Lib.hid (fun w=>hast_any rv.A rv.l.length rv.cap col w)
   rw [decide_eq_false hc] at H2
   have hr1:(r:Int)<(m:Int):=hr.2
   have hr0:(0:Int)≤(r:Int):=hr.1
   rw [hA2] at H1 ⊢
   clear hrv hc f0 hrow hr
   go_quiet (first
    | (go_at_call 66;exact quiet_same (H1.out _))
    | (go_at_call 67;exact quiet_same (H2.out _)))
   go_wp2_with fail
   go_ret
   exact ⟨rfl,below_drawn HB3.out _⟩
 · rw [decide_eq_false hr] at H1
   clear hr
   go_quiet (first
    | (go_at_call 66;exact quiet_same (H1.out _)))
   go_wp2_with fail
   go_ret
   exact ⟨rfl,below_drawn HB3.out _⟩
theorem at_any (w:World) (A:Option Addr) (n cap:Nat) (shs:List Sv) (nm:ByteArray) (row col:Int) (o:Option (Nat × Sv × Nat × Rv × Nat)) (h:BkR w w.heap.size (.slice A n cap) shs) (hn:n≤1000000) (ho:SpotR shs nm row col o) :
 Calls Tryz.prog 40 #[.agg #[.slice A n cap],.agg #[.string nm,.int .i64 row,.int .i64 col]] w fun e w'=>(∃ v,e = .returned v∧AtO w o v)∧Below w.heap.size w w':=by
 cases o with
 | none =>
   rcases ho with ho | ⟨i,s,hf,ho⟩
   · exact (at_nosheet w A n cap shs nm row col h hn ho).mono fun e w' ⟨h1,h2⟩=>⟨⟨_,h1,rfl⟩,h2⟩
   · exact (at_out w A n cap shs nm row col i s h hn hf ho).mono fun e w' ⟨h1,h2⟩=>⟨⟨_,h1,rfl⟩,h2⟩
 | some p =>
   obtain ⟨i,s,r,rv,c⟩:=p
   obtain ⟨h1,rfl,h3,rfl,h5⟩:=ho
   exact at_some w A n cap shs nm i s r rv c h hn ⟨h1,rfl,h3,rfl,h5⟩
set_option maxRecDepth 100000 in
set_option maxHeartbeats 1600000 in
theorem get_any (w:World) (A:Option Addr) (n cap:Nat) (shs:List Sv) (nm:ByteArray) (row col:Int) (o:Option (Nat × Sv × Nat × Rv × Nat)) (h:BkR w w.heap.size (.slice A n cap) shs) (hn:n≤1000000) (ho:SpotR shs nm row col o) :
 Calls Tryz.prog 25 #[.agg #[.slice A n cap],.agg #[.string nm,.int .i64 row,.int .i64 col]] w fun e w'=>e = .returned (.string (txO o))∧Below w.heap.size w w':=by
 obtain ⟨w2,hw2,hb,hbk,hsp,hsz⟩:=two_blocks w (.slice A n cap) nm row col
 have HA:=Lib.hid (at_any w2 A n cap shs nm row col o (h.lift hb) hn ho)
 have HB:=Lib.hid hb;have HBK:=Lib.hid hbk;have HSP:=Lib.hid hsp
 clear h hb hbk hsp ho
 go_enter Tryz.func25,Tryz.ntmps25
 go_upto_region 1 with (fail)
 clear hw2
 have b0:=HBK.out.cell
 obtain ⟨s0,s1,s2⟩:=HSP.out.cells
 go_upto_region 2 with (go_at_call 40;((with_reducible refine HA.out.mono ?_);rintro e w3 ⟨⟨v,rfl,hv⟩,h1⟩;have H3:=Lib.hid h1;have HV:=Lib.hid hv;clear h1 hv))
 clear b0 s0 s1 s2
 have HB3:=Lib.hid (HB.out.trans (H3.out.mono HB.out.size))
 cases o with
 | none =>
   obtain rfl:v = .pointer none:=HV.out
   go_wp2_with fail
   go_ret
   exact ⟨rfl,HB3.out⟩
 | some p =>
   obtain ⟨i,s,r,rv,c⟩:=p
   obtain ⟨pb,po,_,rfl,hpb,hc⟩:=HV.out
   have hc3:w3.cell? ⟨pb,po+c,none⟩=some (.string (rv.l.getD c ⟨#[]⟩)):=(H3.out.cell (p:=⟨pb,po+c,none⟩) hpb).trans hc
   clear hc
   go_wp2_with fail
   go_ret
   exact ⟨rfl,HB3.out⟩
theorem find_fn (shs:List Sv) (nm:ByteArray):∃ o,FindR shs nm o∧o.map (·.2)=shs.find? fun s=>decide (s.nm=nm):=by
 obtain ⟨o,ho⟩:=find_all shs nm
 refine ⟨o,ho, ?_⟩
 cases o with
 | none =>
   symm
   show _=none
   rw [List.find?_eq_none]
   intro s hs
   obtain ⟨j,hj⟩:=List.getElem?_of_mem hs
   simpa using ho j s hj
 | some p =>
   obtain ⟨i,s⟩:=p
   obtain ⟨h1,h2,h3⟩:=ho
   symm
   show _=some s
   obtain ⟨hi,he⟩:=List.getElem?_eq_some_iff.1 h1
   rw [List.find?_eq_some_iff_getElem]
   refine ⟨by simpa using h2,i,hi,he,fun j hj => ?_⟩
   have:=h3 j shs[j] hj (List.getElem?_eq_getElem (by omega))
   simpa using this
def cellsOn (shs:List Sv) (l:List Ar) (nm:ByteArray):List Spt:=match shs.find? fun s=>decide (s.nm=nm) with
 | none=>[]
 | some s=>cellsL (l.filter fun a=>decide (a.sh=nm)) s.nm (s.rows.map fun r=>r.l.length)
def needsL (shs:List Sv) (l:List Ar):List Spt:=(namesL l).flatMap (cellsOn shs l)
theorem flat_succ {α β : Type} (f : α → List β) (l:List α) (i:Nat) (a : α) (h:l[i]? = some a):(l.take (i+1)).flatMap f=(l.take i).flatMap f++f a:=by
 rw [List.take_add_one,h,List.flatMap_append]
 congr 1
 show List.flatMap _ [a]=_
 rw [List.flatMap_cons,List.flatMap_nil,List.append_nil]
theorem cellsOn_len (shs:List Sv) (hsz:∀ s∈shs,s.rows.length≤100∧∀ r∈s.rows,r.l.length≤100) (l:List Ar) (nm:ByteArray):(cellsOn shs l nm).length≤10000:=by
 unfold cellsOn
 cases hq:shs.find? fun s=>decide (s.nm=nm) with
 | none=>exact Nat.zero_le _
 | some s =>
   obtain ⟨h1,h2⟩:=hsz s (List.mem_of_find?_eq_some hq)
   have h:=upC_len (l.filter fun a=>decide (a.sh=nm)) s.nm (s.rows.map fun r=>r.l.length) (fun c hc=>by obtain ⟨r,hr,rfl⟩:=List.mem_map.1 hc;exact h2 r hr) (s.rows.map fun r=>r.l.length).length
   show (cellsL _ _ _).length≤_
   unfold cellsL
   rw [List.length_map] at h ⊢
   omega
theorem flatS_len {α β : Type} (f : α → List β) (hf:∀ a,(f a).length≤10000) (l:List α):(l.flatMap f).length≤l.length*10000:=by
 induction l with
 | nil=>simp
 | cons a t ih=>rw [List.flatMap_cons,List.length_append,List.length_cons];have:=hf a;omega
theorem src_sp {w:World} {base:Nat} {v:Value} {ys:List Spt} (h:Own encSp 35 w base v ys):Src Tryz.prog 3 27 v ys.length (encSp.all ys) w:=by
 rcases h.shape with ⟨rfl,rfl⟩ | ⟨g,cap,rfl,h1,h2,h3,h4⟩
 · exact Src.ofNil w Tryz.underlying27 0
 · exact Src.ofSlice w Tryz.underlying27 _ _ _ _ (by rw [Enc.length_all]) (fun j u hu=>by rw [Addr.add_mid,Nat.zero_add];exact Own.cells h j u hu) (encSp.one_all ys)
theorem wp_app_src {P:Program} {α : Type} {size t tx e bytes:Nat} {w:World} {o:Oper} {a:Act} {K:Act→World→Prop} {Q:Exit→Act→World→Prop} (EL:Elem P t e size bytes) (E:Enc α size)
 (s x:Operand) (ho:o.op = .call { callee := .builtin .append,args:=#[s,x],argTypes:=#[t,tx] }) (base:Nat) (v:Value) (xs:List α)
 (hs:a.eval s=v) (hown:Own E e w base v xs) (y:Value) (m:Nat) (ys:List α) (hx:a.eval x=y) (hl:ys.length=m) (hsrc:Src P size tx y m (E.all ys) w)
 (hb:(xs.length+m)*bytes≤140737488355328) (hb2:xs.length+m≤maxLen) (hbase:base≤w.heap.size)
 (h:∀ (v':Value) (w':World),Own E e w' base v' (xs++ys)→Below base w w'→K (a.put o.dst v') w'):Oper.wp P o a w K Q:=by
 obtain ⟨v',w',hrun,h2,h3⟩:=run_app_src (ty:=o.type) EL E base v xs hown y m ys hl hsrc hb hb2 hbase
 unfold Oper.wp
 simp [execOp,ho,resolve,invoke,builtin,hs,hx,hrun,Result.andThen]
 exact h v' w' h2 h3
def GetIs (w:World) (A:Option Addr) (n cap:Nat) (s:Spt) (x:ByteArray):Prop:=∀ w1,Below w.heap.size w w1→Calls Tryz.prog 25 #[.agg #[.slice A n cap],.agg #[.string s.nm,.int .i64 (s.r:Int),.int .i64 (s.c:Int)]] w1 fun e w'=>e = .returned (.string x)∧Below w1.heap.size w1 w'
def FormIs (w:World) (x:ByteArray) (ns:List Nd):Prop:=∀ w1,Below w.heap.size w w1→Calls Tryz.prog 24 #[.string x] w1 fun e w'=>∃ g cap l,e = .returned (.tuple #[.slice (some ⟨g,0,none⟩) ns.length cap,.bool true])∧SN w' w'.heap.size (.slice (some ⟨g,0,none⟩) ns.length cap) l∧l.map Prod.fst=ns∧Below w1.heap.size w1 w'
set_option maxRecDepth 100000 in
set_option maxHeartbeats 16000000 in
theorem needs_any (w:World) (A:Option Addr) (n cap:Nat) (shs:List Sv) (s:Spt) (x:ByteArray) (ns:List Nd) (h:BkR w w.heap.size (.slice A n cap) shs) (hn:n≤10) (hsz:∀ s∈shs,s.rows.length≤100∧∀ r∈s.rows,r.l.length≤100) (hns:ns.length≤1000) (hg:GetIs w A n cap s x) (hf:FormIs w x ns) :
 Calls Tryz.prog 16 #[.agg #[.slice A n cap],.agg #[.string s.nm,.int .i64 (s.r:Int),.int .i64 (s.c:Int)]] w fun e w'=>Below w.heap.size w w'∧∃ v,e = .returned v∧Own encSp 35 w' w.heap.size v (needsL shs (areasL s.nm ns)):=by
 obtain ⟨w1,hw1,hb,hbk,hsp,hsz1⟩:=two_blocks w (.slice A n cap) s.nm s.r s.c
 have HX:=Lib.hid (h.lift hb)
 have HB:=Lib.hid hb;have HBK:=Lib.hid hbk;have HSP:=Lib.hid hsp;have HL:=Lib.hid h.1.len.1
 have HG:=Lib.hid (hg w1 hb)
 have HF:=Lib.hid (fun w2 (h2:Below w1.heap.size w1 w2)=>hf w2 (hb.trans (h2.mono hb.size)))
 have HSZ:=Lib.hid hsz
 clear h hb hbk hsp hsz1 hg hf hsz
 obtain ⟨nl,hnl⟩:∃ nl,ns.length=nl:=⟨_,rfl⟩
 rw [hnl] at HF hns
 have HNL:=Lib.hid hnl
 obtain ⟨ar,har⟩:∃ ar,areasL s.nm ns=ar:=⟨_,rfl⟩
 have HAL:=Lib.hid (show ar.length≤1000 by rw [← har];have h1:=areasL_len s.nm ns;omega)
 rw [har]
 have HAE:=Lib.hid har
 clear hnl har
 go_enter Tryz.func16,Tryz.ntmps16
 go_upto_region 1 with (fail)
 clear hw1
 have b0:=HBK.out.cell
 obtain ⟨s0,s1,s2⟩:=HSP.out.cells
 go_upto_region 4 with (first
  | (go_at_call 25;((with_reducible refine HG.out.mono ?_);rintro e w2 ⟨rfl,h1⟩;have H2:=Lib.hid h1;clear h1 b0 s0 s1 s2))
  | (go_at_call 24;((with_reducible refine (HF.out _ H2.out).mono ?_);rintro e w3 ⟨g,c3,l,rfl,hsn,hfs,h1⟩;have H3:=Lib.hid (H2.out.trans (h1.mono H2.out.size));have HSN:=Lib.hid hsn;have HFS:=Lib.hid hfs;obtain ⟨s0,s1,s2⟩:=(HSP.out.over H3.out).cells;clear h1 hsn hfs)))
 have hll:l.length=nl:=by have h:=congrArg List.length HFS.out;rw [List.length_map] at h;rw [h,HNL.out]
 have HAR:=Lib.hid (areasOf_any w3 (some ⟨g,0,none⟩) nl c3 l s.nm HSN.out hll hns)
 rw [HFS.out] at HAR
 rw [HAE.out] at HAR
 clear hll
 go_upto_region 6 with (go_at_call 26;((with_reducible refine HAR.out.mono ?_);rintro e w4 ⟨h1,va,rfl,h2⟩;have H4:=Lib.hid (H3.out.trans (h1.mono H3.out.size));have HA4:=Lib.hid h2;clear h1 h2 s0 s1 s2))
 obtain ⟨Aa,ca,rfl⟩:=own_sl HA4.out
 obtain ⟨na,hna⟩:∃ na,ar.length=na:=⟨_,rfl⟩
 have hna1:na≤1000:=by have h:=HAL.out;omega
 rw [hna] at HA4 ⊢
 have HSE4:=Lib.hid (show ArsR w4 w4.heap.size (.slice Aa na ca) ar from HA4.out.se)
 have HSH:=Lib.hid (sheets_any w4 Aa na ca ar HSE4.out hna1)
 go_upto_region 7 with (go_at_call 27;((with_reducible refine HSH.out.mono ?_);rintro e w5 ⟨h1,vn,rfl,h2⟩;obtain ⟨An,cn,rfl⟩:=own_sl h2;have H45:=Lib.hid h1;have HN5:=Lib.hid h2;clear h1 h2))
 have HNN:=Lib.hid (namesL_len ar)
 obtain ⟨nms,hnms⟩:∃ nms,namesL ar=nms:=⟨_,rfl⟩
 obtain ⟨N,hN⟩:∃ N,nms.length=N:=⟨_,rfl⟩
 have HRES:=Lib.hid (show needsL shs ar=nms.flatMap (cellsOn shs ar) by unfold needsL;rw [hnms])
 rw [hnms,hN] at HN5 HNN ⊢
 have hN1:N≤1000:=by have h:=HNN.out;have h2:=HAL.out;omega
 have H5:=Lib.hid (H4.out.trans (H45.out.mono H4.out.size))
 have HSE5:=Lib.hid (show ArsR w5 w5.heap.size (.slice Aa na ca) ar from SE.lift HSE4.out H45.out)
 have HNS:=Lib.hid HN5.out.se
 have HNL2:=Lib.hid hN
 clear hnms hN HSE4 HSH HA4 HAR HF HG HSN HFS
 go_loopw [8,28] (fun lv iv wr=>∃ (i:Nat) (v:Value),i≤N∧v=lv∧iv = .int .i64 (i:Int)∧Hid (Own encSp 35 wr w5.heap.size v ((nms.take i).flatMap (cellsOn shs ar)))∧Hid (Below w5.heap.size w5 wr))
  (fun _ iv _=>N - (intOf iv).toNat)
 case atStart=>exact ⟨0,_,Nat.zero_le _,rfl,rfl,Lib.hid (Own.nil _ _ _ _),Lib.hid (Below.refl _ _)⟩
 case round =>
  obtain ⟨i,v,hi,rfl,rfl,HO,HR⟩:=hrel
  have HR1:=Lib.hid (H5.out.trans (HR.out.mono H5.out.size))
  by_cases hlt:i<N
  · have hii:(i:Int)<(N:Int):=by omega
    have hi0:(0:Int)≤(i:Int):=by omega
    obtain ⟨nm,hnm⟩:∃ nm,nms[i]? = some nm:=⟨_,List.getElem?_eq_getElem (by rw [HNL2.out];exact hlt)⟩
    obtain ⟨qb,qo,hAq,hqb,q0⟩:=tx_at HNS.out hnm
    have q1:=(HR.out.cell (p:=⟨qb,qo+i,none⟩) hqb).trans q0
    have HNX:=Lib.hid (flat_succ (cellsOn shs ar) nms i nm hnm)
    have HBD:=Lib.hid (show ((nms.take i).flatMap (cellsOn shs ar)).length≤10000000 by
     have h1:=flatS_len (cellsOn shs ar) (cellsOn_len shs HSZ.out ar) (nms.take i)
     rw [List.length_take] at h1;omega)
    obtain ⟨o,ho,hom⟩:=find_fn shs nm
    have HFI:=Lib.hid (find_any wr A n cap shs nm o (HX.out.lift HR1.out) (by omega) ho)
    have b0:=(HBK.out.over HR1.out).cell
    rw [hAq]
    clear hnm hAq hqb q0
    cases o with
    | none =>
      have HCO:=Lib.hid (show cellsOn shs ar nm=[] by unfold cellsOn;rw [← hom];rfl)
      clear ho hom
      go_wp2_with (go_at_call 28;((with_reducible refine HFI.out.mono ?_);rintro e w6 ⟨rfl,h1⟩;have HR6:=Lib.hid (HR.out.trans (h1.mono HR.out.size));have HO6:=Lib.hid (HO.out.below h1 (Nat.le_refl _));clear h1 b0 q1))
      go_roundw
      case rel=>exact ⟨i+1,_,by omega,rfl,by go_num,Lib.hid (by rw [HNX.out,HCO.out,List.append_nil];exact HO6.out),HR6⟩
      case measure=>simp [intOf];omega
    | some p =>
      obtain ⟨k,t⟩:=p
      obtain ⟨hk,hknm,_⟩:=ho
      obtain ⟨pb,po,hAp,hpb,e0,e1,e2,hrow⟩:=sh_at HX.out hk
      have hkn:(k:Int)<(n:Int):=by have h1:=(List.getElem?_eq_some_iff.1 hk).1;have h2:=HL.out;omega
      have hk0:(0:Int)≤(k:Int):=by omega
      have HCO:=Lib.hid (show cellsOn shs ar nm=cellsL (ar.filter fun a=>decide (a.sh=nm)) t.nm (t.rows.map fun r=>r.l.length) by unfold cellsOn;rw [← hom];rfl)
      obtain ⟨hR,hC⟩:=HSZ.out t (List.mem_of_getElem? hk)
      have HCL:=Lib.hid (show (cellsL (ar.filter fun a=>decide (a.sh=nm)) t.nm (t.rows.map fun r=>r.l.length)).length≤10000 by rw [← HCO.out];exact cellsOn_len shs HSZ.out ar nm)
      have HROW:=Lib.hid hrow;have HRB:=Lib.hid hR;have HCB:=Lib.hid hC
      have HKP:=Lib.hid (fun (wq:World) (hq:Below w1.heap.size w1 wq)=>(show wq.cell? ⟨w.heap.size,0,none⟩=some (.slice (some ⟨pb,po,none⟩) n cap)∧wq.cell? ⟨pb,po+k*3,none⟩=some (.string t.nm)∧wq.cell? ⟨pb,po+k*3+1,none⟩=some (.int .i64 t.cols)∧wq.cell? ⟨pb,po+k*3+2,none⟩=some (.slice t.A t.rows.length t.cap) from
       ⟨by rw [← hAp];exact (HBK.out.over hq).cell,(hq.cell (p:=⟨pb,po+k*3,none⟩) hpb).trans e0,(hq.cell (p:=⟨pb,po+k*3+1,none⟩) hpb).trans e1,(hq.cell (p:=⟨pb,po+k*3+2,none⟩) hpb).trans e2⟩))
      have HFI:=Lib.hid (show Calls Tryz.prog 28 #[.agg #[.slice A n cap],.string nm] wr fun e w'=>e = .returned (.int .i64 (k:Int))∧Below wr.heap.size wr w' from HFI.out)
      rw [hAp] at HFI b0
      clear hom hk hknm hpb e0 e1 e2 hrow hR hC hAp
      go_upto_region 11 with (go_at_call 28;((with_reducible refine HFI.out.mono ?_);rintro e w6 ⟨rfl,h1⟩;have HR6:=Lib.hid (HR.out.trans (h1.mono HR.out.size));have HO6:=Lib.hid (HO.out.below h1 (Nat.le_refl _));clear h1 b0 q1))
      have HD6:=Lib.hid (HR6.out.drew)
      have HE6:=Lib.hid (H5.out.trans (HD6.out.mono H5.out.size))
      have HS6:=Lib.hid (show ArsR w6.drew w6.drew.heap.size (.slice Aa na ca) ar from SE.lift HSE5.out HD6.out)
      have HON:=Lib.hid (on_any w6.drew Aa na ca ar nm HS6.out hna1)
      have HO7:=Lib.hid (show Own encSp 35 w6.drew w5.heap.size v ((nms.take i).flatMap (cellsOn shs ar)) from HO6.out.drew)
      refine wp_region_held_drew (S:=fun wq=>wq.cell? ⟨w.heap.size,0,none⟩=some (.slice (some ⟨pb,po,none⟩) n cap)∧wq.cell? ⟨pb,po+k*3,none⟩=some (.string t.nm)∧wq.cell? ⟨pb,po+k*3+1,none⟩=some (.int .i64 t.cols)∧wq.cell? ⟨pb,po+k*3+2,none⟩=some (.slice t.A t.rows.length t.cap)) (by kernel_rfl) (HKP.out _ HE6.out) (fun _ => ?_)
      show wpAnyH _ _ _ _ _ 12 #[false,false,false,false,false,false,false,false,false,false,false,false] _ _
      refine hU 0 (HKP.out _ HE6.out) ?_
      refine hU 1 (HKP.out _ HE6.out) ?_
      refine hU 2 (HKP.out _ HE6.out) ?_
      refine hU 4 (HKP.out _ HE6.out) ?_
      refine hU 5 (HKP.out _ HE6.out) ?_
      refine hU 6 (HKP.out _ HE6.out) ?_
      refine hU 7 (HKP.out _ HE6.out) ?_
      refine hU 8 (HKP.out _ HE6.out) ?_
      refine hO 3 (fun K hK => ?_)
      go_simp
      go_at_call 29
      (with_reducible refine HON.out.mono ?_)
      rintro e w7 ⟨h1,vo,rfl,h2⟩
      obtain ⟨Ao,co,rfl⟩:=own_sl h2
      have HR7:=Lib.hid (HD6.out.trans (h1.mono HD6.out.size))
      have HE7:=Lib.hid (H5.out.trans (HR7.out.mono H5.out.size))
      have HO8:=Lib.hid (HO7.out.below h1 (Nat.le_refl _))
      have hol:(ar.filter fun a=>decide (a.sh=nm)).length≤1000:=by have h3:=List.length_filter_le (fun a:Ar=>decide (a.sh=nm)) ar;have h4:=HAL.out;omega
      have HCE:=Lib.hid (cells_any w7 Ao _ co (ar.filter fun a=>decide (a.sh=nm)) t h2.se hol (HROW.out.lift HE7.out) HRB.out HCB.out)
      clear h1 h2
      dsimp only
      refine hK.out _ _ (HKP.out _ HE7.out) ?_
      clear hK K
      simp only [Act.put,sT,sZ,sS]
      refine hO 9 (fun K hK => ?_)
      go_simp
      go_at_call 30
      (with_reducible refine HCE.out.mono ?_)
      rintro e w8 ⟨h1,vc,rfl,h2⟩
      have HR8:=Lib.hid (HR7.out.trans (h1.mono HR7.out.size))
      have HE8:=Lib.hid (H5.out.trans (HR8.out.mono H5.out.size))
      have HO9:=Lib.hid (HO8.out.below h1 (Nat.le_refl _))
      have HSC:=Lib.hid (src_sp h2)
      clear h1 h2
      dsimp only
      refine hK.out _ _ (HKP.out _ HE8.out) ?_
      clear hK K
      simp only [Act.put,sT,sZ,sS]
      refine hO 10 (fun K hK => ?_)
      refine wp_app_src Elem.spt encSp (.tmp 37) (.tmp 46) rfl w5.heap.size v _ ?_ HO9.out vc _ _ ?_ rfl HSC.out ?_ ?_ HR8.out.size ?_
      · go_simp
      · go_simp
      · have h1:=HBD.out;have h2:=HCL.out;omega
      · have h1:=HBD.out;have h2:=HCL.out;unfold maxLen;omega
      intro v9 w9 h1 h2
      have HOA:=Lib.hid h1
      have HRA:=Lib.hid (HR8.out.trans h2)
      have HEA:=Lib.hid (H5.out.trans (HRA.out.mono H5.out.size))
      clear h1 h2
      refine hK.out _ _ (HKP.out _ HEA.out) ?_
      clear hK K
      simp only [Act.put,sT,sZ,sS]
      refine hU 11 (HKP.out _ HEA.out) ?_
      refine wpAnyH_done (by kernel_rfl) ?_ _
      go_wp2_with fail
      go_roundw
      case rel=>exact ⟨i+1,_,by omega,rfl,by go_num,Lib.hid (by rw [HNX.out,HCO.out];exact HOA.out),HRA⟩
      case measure=>simp [intOf];omega
  · have hii:¬ (i:Int)<(N:Int):=by omega
    have HE:=Lib.hid (show nms.take i=nms from List.take_of_length_le (by rw [HNL2.out];omega))
    go_wp2_with fail
    go_ret
    have H0:=HB.out.trans (HR1.out.mono HB.out.size)
    exact ⟨H0,_,rfl,by have h:=HO.out;rw [HE.out, ← HRES.out] at h;exact h.mono (by have h1:=HB.out.size;have h2:=H5.out.size;omega)⟩
end Go.Proofs.YtnahgpjglooclaaGreatDoor
namespace Go.Proofs.YtnahgpjglooclaaGreatDoor
open Go Go.WideMaps Go.ChangeMaps Go.MapKept Go.Maps Go.WideElems Go.RowKit
def spV (s:Spt):Value := .agg #[.string s.nm,.int .i64 (s.r:Int),.int .i64 (s.c:Int)]
structure SpSz (s:Spt):Prop where
 nm:s.nm.size≤maxLen
 r:s.r≤1000000
 c:s.c≤1000000
theorem spV_inj {a b:Spt} (h:spV a=spV b):a=b:=by
 obtain ⟨n,r,c⟩:=a
 obtain ⟨n',r',c'⟩:=b
 unfold spV at h
 injection h with h
 have h:=congrArg Array.toList h
 simp only [List.cons.injEq,and_true] at h
 obtain ⟨h1,h2,h3⟩:=h
 injection h1 with h1;injection h2 with _ h2;injection h3 with _ h3
 have:r=r':=by omega
 have:c=c':=by omega
 subst h1;subst r;subst c;rfl
theorem sp_law:KeyLaw Tryz.prog 35:=deep_law_gate (by kernel_rfl) (of_decide_eq_true (by kernel_rfl)) (of_decide_eq_true (by kernel_rfl)) (by kernel_rfl) (by rw [Tryz.underlying35])
theorem sp_keyed:Keyed Tryz.prog 35:=Keyed.of_law sp_law
theorem key_sp (s:Spt) (h:SpSz s):∃ l,keyOf Tryz.prog 35 (spV s)=some l:=by
 have h1:Tryz.prog.keyType 35=true:=by kernel_rfl
 have h2:Tryz.prog.cellsOf 35=3:=by kernel_rfl
 have h3:Tryz.prog.cellsOf 9=1:=by kernel_rfl
 have h4:Tryz.prog.cellsOf 3=1:=by kernel_rfl
 obtain ⟨n,hn⟩:∃ n,Tryz.prog.types.size=n+1:=⟨Tryz.prog.types.size - 1,(Nat.sub_add_cancel (of_decide_eq_true (by kernel_rfl))).symm⟩
 have hu:=Tryz.underlying35
 have hr:=h.r;have hc:=h.c;have hs:=h.nm
 have w1:(Lit.int .i64 (s.r:Int)).wf=true:=by simp only [Lit.wf,Bool.and_eq_true,decide_eq_true_eq];exact ⟨by show (-9223372036854775808:Int)≤_;omega,by show _≤(9223372036854775807:Int);omega⟩
 have w2:(Lit.int .i64 (s.c:Int)).wf=true:=by simp only [Lit.wf,Bool.and_eq_true,decide_eq_true_eq];exact ⟨by show (-9223372036854775808:Int)≤_;omega,by show _≤(9223372036854775807:Int);omega⟩
 unfold keyOf
 rw [hu,hn]
 simp [spV,h1,h2,h3,h4,hu,hs,w1,w2,Value.formed,Value.cells,Program.keyLits,Tryz.underlying9,Tryz.underlying3]
def SpM (w:World) (b:Nat) (es:List (Spt × Value)):Prop :=
 ∃ a clock,w.heap[b]? = some (.map a clock)∧a.toList.map (fun e=>(e.key,e.val))=es.map (fun p=>(spV p.1,p.2))
theorem SpM.made (w:World):SpM (w.alloc (.map #[] 0)) w.heap.size []:=⟨#[],0,(MapKept.heap_alloc w _).1,rfl⟩
theorem SpM.lt {w:World} {b:Nat} {es:List (Spt × Value)} (h:SpM w b es):b<w.heap.size:=by
 obtain ⟨a,c,hb,_⟩:=h
 exact (Array.getElem?_eq_some_iff.1 hb).1
theorem SpM.keep {w w':World} {b:Nat} {es:List (Spt × Value)} (h:SpM w b es) (hk:w'.heap[b]? = w.heap[b]?):SpM w' b es:=by
 obtain ⟨a,c,h1,h2⟩:=h
 exact ⟨a,c,hk.trans h1,h2⟩
theorem SpM.below {w w':World} {b B:Nat} {es:List (Spt × Value)} (h:SpM w b es) (hb:Below B w w') (hB:b<B):SpM w' b es:=h.keep (hb.block b hB)
theorem SpM.keys {es:List (Spt × Value)} {a:Array MapEntry} (h:a.toList.map (fun e=>(e.key,e.val))=es.map (fun p=>(spV p.1,p.2))):∀ e∈a.toList,∃ p∈es,e.key=spV p.1∧e.val=p.2:=by
 intro e he
 have h1:(e.key,e.val)∈a.toList.map (fun e=>(e.key,e.val)):=List.mem_map.2 ⟨e,he,rfl⟩
 rw [h] at h1
 obtain ⟨p,hp,hpe⟩:=List.mem_map.1 h1
 simp only [Prod.mk.injEq] at hpe
 exact ⟨p,hp,hpe.1.symm,hpe.2.symm⟩
theorem SpM.put {w:World} {b:Nat} {es:List (Spt × Value)} (h:SpM w b es) (hsz:∀ p∈es,SpSz p.1) (key:Spt) (hks:SpSz key) (hnew:∀ p∈es,p.1≠key) (v:Value) :
 ∃ w',(Instr.mapUpdate 50 (.map (some b)) (spV key) v).run Tryz.prog w = .ok () w'∧SpM w' b (es++[(key,v)])∧w'.heap.size=w.heap.size∧w.grownBy w' (some b):=by
 obtain ⟨a,clock,hb,hes⟩:=h
 have ht:=Tryz.underlying50
 have K:=sp_keyed
 obtain ⟨kl,hkey⟩:=key_sp key hks
 have hgr:∀ o:Obj,w.grownBy (setBlock w b o) (some b):=fun o=>⟨rfl,rfl,rfl,by simp [setBlock],fun j _ hne=>heap_setBlock_other hb _ (fun e=>hne (by rw [e]))⟩
 rcases K.find w hkey a.toList (fun x hx=>by
  obtain ⟨p,hp,h1,_⟩:=SpM.keys hes x hx
  rw [h1];exact key_sp _ (hsz p hp)) with ⟨h1,h2⟩ | ⟨j,x,_,h2,h3⟩
 · refine ⟨setBlock w b (.map (a.push ⟨spV key,v,clock⟩) (clock+1)), ?_,⟨_,_,heap_setBlock_same hb _, ?_⟩,by simp [setBlock],hgr _⟩
   · simp [Instr.mapUpdate,run_underlying ht,MapKept.run_getObj_map hb,K.check w false hkey,h1,MapKept.run_setObj_map _ hb,Result.andThen,setBlock]
   · rw [Array.toList_push,List.map_append,List.map_append,hes];rfl
 · exfalso
   obtain ⟨p,hp,h4,_⟩:=SpM.keys hes x (List.mem_of_getElem? h2)
   rw [h3] at h4
   exact hnew p hp (spV_inj h4).symm
theorem SpM.miss {w:World} {b:Nat} {es:List (Spt × Value)} (h:SpM w b es) (hsz:∀ p∈es,SpSz p.1) (key:Spt) (hks:SpSz key) (hno:∀ p∈es,p.1≠key) :
 (Instr.lookup 50 (.map (some b)) (spV key) true).run Tryz.prog w = .ok (.tuple #[.int .i64 0,.bool false]) w:=by
 obtain ⟨a,clock,hb,hes⟩:=h
 have ht:=Tryz.underlying50
 have hz:(zeroValue 3).run Tryz.prog w = .ok (.int .i64 0) w:=Tryz.zeroValue3 w
 have K:=sp_keyed
 obtain ⟨kl,hkey⟩:=key_sp key hks
 rcases K.find w hkey a.toList (fun x hx=>by
  obtain ⟨p,hp,h1,_⟩:=SpM.keys hes x hx
  rw [h1];exact key_sp _ (hsz p hp)) with ⟨h1,h2⟩ | ⟨j,x,_,h2,h3⟩
 · simp [Instr.lookup,run_underlying ht,MapKept.run_getObj_map hb,K.check w _ hkey,h1,hz,Result.andThen]
 · exfalso
   obtain ⟨p,hp,h4,_⟩:=SpM.keys hes x (List.mem_of_getElem? h2)
   rw [h3] at h4
   exact hno p hp (spV_inj h4).symm
theorem SpM.find {w:World} {b:Nat} {es:List (Spt × Value)} (h:SpM w b es) (hsz:∀ p∈es,SpSz p.1) (key:Spt) (hks:SpSz key) (v:Value) (hin:(key,v)∈es) (hone:∀ p∈es,p.1=key→p.2=v) :
 (Instr.lookup 50 (.map (some b)) (spV key) true).run Tryz.prog w = .ok (.tuple #[v,.bool true]) w:=by
 obtain ⟨a,clock,hb,hes⟩:=h
 have ht:=Tryz.underlying50
 have K:=sp_keyed
 obtain ⟨kl,hkey⟩:=key_sp key hks
 rcases K.find w hkey a.toList (fun x hx=>by
  obtain ⟨p,hp,h1,_⟩:=SpM.keys hes x hx
  rw [h1];exact key_sp _ (hsz p hp)) with ⟨h1,h2⟩ | ⟨j,x,h1,h2,h3⟩
 · exfalso
   have h4:(spV key,v)∈a.toList.map (fun e=>(e.key,e.val)):=by rw [hes];exact List.mem_map.2 ⟨_,hin,rfl⟩
   obtain ⟨x,hx,hxe⟩:=List.mem_map.1 h4
   simp only [Prod.mk.injEq] at hxe
   exact h2 x hx hxe.1
 · obtain ⟨p,hp,h4,h5⟩:=SpM.keys hes x (List.mem_of_getElem? h2)
   rw [h3] at h4
   have h6:=hone p hp (spV_inj h4).symm
   rw [h5,h6] at h1
   simp [Instr.lookup,run_underlying ht,MapKept.run_getObj_map hb,K.check w _ hkey,h1,Result.andThen]
end Go.Proofs.YtnahgpjglooclaaGreatDoor
