/-
 Texts of layers, put together.
-/
import Derived.Test.YtnahgpjglooclaaGreatDoorDR5
import Derived.Deep.DeepCutAuto
import Derived.Lib.Builder
import Derived.Laws.Externs
import Derived.Lib.UnsafeStr
namespace Go.Proofs.YtnahgpjglooclaaGreatDoor
open Go.RowKit
def posS (l:List Spt) (s:Spt):Option Nat:=l.findIdx? fun t=>decide (t.nm=s.nm∧t.r=s.r∧t.c=s.c)
theorem spt_eq {a b:Spt} (h:a.nm=b.nm∧a.r=b.r∧a.c=b.c):a=b:=by
 obtain ⟨n,r,c⟩:=a
 obtain ⟨n',r',c'⟩:=b
 obtain ⟨h1,h2,h3⟩:=h
 dsimp only at h1 h2 h3
 subst h1;subst h2;subst h3;rfl
theorem posS_some {l:List Spt} {s:Spt} {k:Nat} (h:posS l s=some k):l[k]? = some s:=by
 unfold posS at h
 rw [List.findIdx?_eq_some_iff_getElem] at h
 obtain ⟨h1,h2,_⟩:=h
 rw [List.getElem?_eq_getElem h1]
 exact congrArg some (spt_eq (of_decide_eq_true h2))
theorem posS_none {l:List Spt} {s:Spt} (h:posS l s=none):∀ t∈l,t≠s:=by
 unfold posS at h
 rw [List.findIdx?_eq_none_iff] at h
 intro t ht e
 have h1:=h t ht
 subst e
 simp at h1
def stepW (l:List Spt) (i:Nat) (st:List (List Int) × List Int) (s:Spt):List (List Int) × List Int:=match posS l s with
 | some k=>(st.1.set k (st.1.getD k []++[(i:Int)]),st.2.set i (st.2.getD i 0+1))
 | none=>st
def webF (l:List Spt) (nd:Spt→List Spt) (i:Nat):List (List Int) × List Int:=(List.range i).foldl (fun st i=>match l[i]? with
 | some s=>(nd s).foldl (stepW l i) st
 | none=>st) (List.replicate l.length [],List.replicate l.length 0)
theorem webF_succ (l:List Spt) (nd:Spt→List Spt) (i:Nat) (s:Spt) (h:l[i]? = some s):webF l nd (i+1)=(nd s).foldl (stepW l i) (webF l nd i):=by
 unfold webF
 rw [List.range_succ,List.foldl_append]
 simp only [List.foldl_cons,List.foldl_nil,h]
theorem fold_succ {α β : Type} (f : β → α → β) (b : β) (xs:List α) (j:Nat) (x : α) (h:xs[j]? = some x):(xs.take (j+1)).foldl f b=f ((xs.take j).foldl f b) x:=by
 rw [List.take_add_one,h,List.foldl_append];rfl
def esL (l:List Spt):List (Spt × Value):=l.mapIdx fun i s=>(s,.int .i64 (i:Int))
theorem esL_succ (l:List Spt) (i:Nat) (s:Spt) (h:l[i]? = some s):esL (l.take (i+1))=esL (l.take i)++[(s,.int .i64 (i:Int))]:=by
 have hl:(l.take i).length=i:=by rw [List.length_take];have:=(List.getElem?_eq_some_iff.1 h).1;omega
 unfold esL
 rw [List.take_add_one,h,List.mapIdx_append]
 simp [hl]
theorem esL_mem {l:List Spt} {p:Spt × Value} (h:p∈esL l):∃ k:Nat,l[k]? = some p.1∧p.2 = .int .i64 (k:Int):=by
 unfold esL at h
 obtain ⟨k,hk,he⟩:=List.mem_mapIdx.1 h
 exact ⟨k,by rw [List.getElem?_eq_getElem hk, ← he],by rw [← he]⟩
theorem esL_in {l:List Spt} {k:Nat} {s:Spt} (h:l[k]? = some s):(s,Value.int .i64 (k:Int))∈esL l:=by
 obtain ⟨h1,h2⟩:=List.getElem?_eq_some_iff.1 h
 unfold esL
 exact List.mem_mapIdx.2 ⟨k,h1,by rw [h2]⟩
theorem sp_at {w:World} {B:Nat} {A:Option Addr} {n cap:Nat} {l:List Spt} (h:SE encSp w B (.slice A n cap) l) {i:Nat} {x:Spt} (hi:l[i]? = some x) :
 ∃ pb po,A=some ⟨pb,po,none⟩∧pb<B∧w.cell? ⟨pb,po+i*3,none⟩=some (.string x.nm)∧w.cell? ⟨pb,po+i*3+1,none⟩=some (.int .i64 (x.r:Int))∧w.cell? ⟨pb,po+i*3+2,none⟩=some (.int .i64 (x.c:Int)):=by
 obtain ⟨pb,po,h1,h2,h3⟩:=h.at hi
 exact ⟨pb,po,h1,h2,h3 0 _ rfl,by have:=h3 1 _ rfl;rwa [← Nat.add_assoc] at this,by have:=h3 2 _ rfl;rwa [← Nat.add_assoc] at this⟩
theorem below_spt (w:World) (s:Spt):Below w.heap.size w (w.alloc (.cells #[.string s.nm,.int .i64 (s.r:Int),.int .i64 (s.c:Int)] 35)):=(Below.refl _ _).alloc (Nat.le_refl _) _
theorem spt_new (w:World) (s:Spt):(w.alloc (.cells #[.string s.nm,.int .i64 (s.r:Int),.int .i64 (s.c:Int)] 35)).cell? ⟨w.heap.size,0,none⟩=some (.string s.nm)∧(w.alloc (.cells #[.string s.nm,.int .i64 (s.r:Int),.int .i64 (s.c:Int)] 35)).cell? ⟨w.heap.size,1,none⟩=some (.int .i64 (s.r:Int))∧(w.alloc (.cells #[.string s.nm,.int .i64 (s.r:Int),.int .i64 (s.c:Int)] 35)).cell? ⟨w.heap.size,2,none⟩=some (.int .i64 (s.c:Int)):=by
 refine ⟨?_, ?_, ?_⟩ <;> (rw [World.cell?_alloc_new];rfl)
theorem Elem.it:Elem Tryz.prog 52 3 1 8:=⟨Tryz.underlying52,⟨.int .i64 0,by kernel_rfl,rfl⟩,by decide⟩
theorem repl_apart (n:Nat):∀ (i j:Nat) (u t:Iv),i≠j→(List.replicate n nilI)[i]? = some u→(List.replicate n nilI)[j]? = some t→∀ g,u.v.ownBlock=some g→t.v.ownBlock≠some g:=by
 intro i j u t _ hi _ g hg
 have:=List.mem_of_getElem? hi
 rw [List.eq_of_mem_replicate this] at hg
 cases hg
theorem web_UI (wm w:World) (n:Nat) (sv:Value) (hm:Below wm.heap.size wm w):WbI wm (((w.alloc (.cells (madeCells #[.slice none 0 0] n) 52)).alloc (.cells (madeCells #[.int .i64 0] n) 3)).alloc (.cells #[sv,.slice (some ⟨w.heap.size,0,none⟩) n n,.slice (some ⟨w.heap.size+1,0,none⟩) n n] 54)) (w.heap.size+3) (w.heap.size+2) w.heap.size (w.heap.size+1) n sv (List.replicate n nilI) (List.replicate n 0):=by
 have h1:=made_U w n
 have h2:=made_I (w.alloc (.cells (madeCells #[.slice none 0 0] n) 52)) n
 have h3:=WbAt.new ((w.alloc (.cells (madeCells #[.slice none 0 0] n) 52)).alloc (.cells (madeCells #[.int .i64 0] n) 3)) sv (.slice (some ⟨w.heap.size,0,none⟩) n n) (.slice (some ⟨w.heap.size+1,0,none⟩) n n)
 simp only [World.size_alloc] at h2 h3
 have hs:=hm.size
 refine ⟨h3,h1.keep ?_,h2.keep ?_,fun u hu => ?_,repl_apart n,((hm.alloc hs _).alloc (by simp;omega) _).alloc (by simp;omega) _,⟨by omega,by omega,by omega,by omega,by omega,by omega,by omega,by omega,by omega⟩,by simp,List.length_replicate ..,List.length_replicate ..⟩
 · exact (Below.heap_alloc _ _ _ (by simp only [World.size_alloc];omega)).trans (Below.heap_alloc _ _ _ (by simp))
 · exact Below.heap_alloc _ _ _ (by simp)
 · rw [List.eq_of_mem_replicate hu];exact Own.nil _ _ _ _
theorem web_IU (wm w:World) (n:Nat) (sv:Value) (hm:Below wm.heap.size wm w):WbI wm (((w.alloc (.cells (madeCells #[.int .i64 0] n) 3)).alloc (.cells (madeCells #[.slice none 0 0] n) 52)).alloc (.cells #[sv,.slice (some ⟨w.heap.size+1,0,none⟩) n n,.slice (some ⟨w.heap.size,0,none⟩) n n] 54)) (w.heap.size+3) (w.heap.size+2) (w.heap.size+1) w.heap.size n sv (List.replicate n nilI) (List.replicate n 0):=by
 have h1:=made_I w n
 have h2:=made_U (w.alloc (.cells (madeCells #[.int .i64 0] n) 3)) n
 have h3:=WbAt.new ((w.alloc (.cells (madeCells #[.int .i64 0] n) 3)).alloc (.cells (madeCells #[.slice none 0 0] n) 52)) sv (.slice (some ⟨w.heap.size+1,0,none⟩) n n) (.slice (some ⟨w.heap.size,0,none⟩) n n)
 simp only [World.size_alloc] at h2 h3
 have hs:=hm.size
 refine ⟨h3,h2.keep ?_,h1.keep ?_,fun u hu => ?_,repl_apart n,((hm.alloc hs _).alloc (by simp;omega) _).alloc (by simp;omega) _,⟨by omega,by omega,by omega,by omega,by omega,by omega,by omega,by omega,by omega⟩,by simp,List.length_replicate ..,List.length_replicate ..⟩
 · exact Below.heap_alloc _ _ _ (by simp)
 · exact (Below.heap_alloc _ _ _ (by simp only [World.size_alloc];omega)).trans (Below.heap_alloc _ _ _ (by simp))
 · rw [List.eq_of_mem_replicate hu];exact Own.nil _ _ _ _
def Bnd (us:List Iv) (ls:List Int) (T:Nat):Prop:=(∀ u∈us,u.l.length≤T)∧∀ x∈ls,0≤x∧x≤(T:Int)
theorem Bnd.up {us:List Iv} {ls:List Int} {T T':Nat} (h:Bnd us ls T) (ht:T≤T'):Bnd us ls T' :=
 ⟨fun u hu=>Nat.le_trans (h.1 u hu) ht,fun x hx=>⟨(h.2 x hx).1,by have:=(h.2 x hx).2;omega⟩⟩
theorem Bnd.step {us:List Iv} {ls:List Int} {T k i:Nat} {u:Iv} {x:Int} {A:Option Addr} {c:Nat} {y:Int} (h:Bnd us ls T) (hu:us[k]? = some u) (hx:ls[i]? = some x):Bnd (us.set k ⟨A,c,u.l++[y]⟩) (ls.set i (x+1)) (T+1):=by
 refine ⟨fun v hv => ?_,fun z hz => ?_⟩
 · rcases List.mem_or_eq_of_mem_set hv with hv | rfl
   · have:=h.1 v hv;omega
   · have:=h.1 u (List.mem_of_getElem? hu)
     show (u.l++[y]).length≤_
     rw [List.length_append,List.length_singleton];omega
 · rcases List.mem_or_eq_of_mem_set hz with hz | rfl
   · have:=h.2 z hz;omega
   · have:=h.2 x (List.mem_of_getElem? hx);omega
theorem step_eq {us:List Iv} {ls:List Int} {k i:Nat} {u:Iv} {x y:Int} {A:Option Addr} {c:Nat} (hu:us[k]? = some u) (hx:ls[i]? = some x):((us.set k ⟨A,c,u.l++[y]⟩).map (·.l),ls.set i (x+1))=((us.map (·.l)).set k ((us.map (·.l)).getD k []++[y]),ls.set i (ls.getD i 0+1)):=by
 rw [List.map_set,List.getD_eq_getElem?_getD,List.getElem?_map,hu,List.getD_eq_getElem?_getD,hx];rfl
theorem WbI.ucell {wm w:World} {B2 wb gu gl n:Nat} {sv:Value} {us:List Iv} {ls:List Int} (h:WbI wm w B2 wb gu gl n sv us ls) {k:Nat} {u:Iv} (hu:us[k]? = some u):w.cell? ⟨gu,k,none⟩=some u.v:=by
 rw [cell_of_row w gu k _ _ _ h.usr,all_encIv];simp [hu]
theorem WbI.lcell {wm w:World} {B2 wb gu gl n:Nat} {sv:Value} {us:List Iv} {ls:List Int} (h:WbI wm w B2 wb gu gl n sv us ls) {k:Nat} {x:Int} (hx:ls[k]? = some x):w.cell? ⟨gl,k,none⟩=some (.int .i64 x):=by
 rw [cell_of_row w gl k _ _ _ h.lck,all_encInt];simp [hx]
theorem WbI.lfrozen {wm w:World} {B2 wb gu gl n:Nat} {sv:Value} {us:List Iv} {ls:List Int} (h:WbI wm w B2 wb gu gl n sv us ls) (k:Nat):w.frozen? ⟨gl,k,none⟩=false:=frozen_of_row w gl k _ _ h.lck
theorem WbI.low_block {wm w w':World} {B2 wb gu gl n:Nat} {sv:Value} {us:List Iv} {ls:List Int} (h:WbI wm w B2 wb gu gl n sv us ls) {k:Nat} {u:Iv} (hu:us[k]? = some u) (hg:w.grownBy w' u.v.ownBlock) (g:Nat) (hlt:g<B2):w'.heap[g]? = w.heap[g]? :=
 hg.block g (Nat.lt_of_lt_of_le hlt h.size) fun e=>by have:=((h.each u (List.mem_of_getElem? hu)).lies e.symm).1;omega
theorem WbI.webG {wm w w':World} {B2 wb gu gl n:Nat} {sv:Value} {us:List Iv} {ls:List Int} (h:WbI wm w B2 wb gu gl n sv us ls) {k:Nat} {u:Iv} (hu:us[k]? = some u) (hg:w.grownBy w' u.v.ownBlock):WbAt w' wb sv (.slice (some ⟨gu,0,none⟩) n n) (.slice (some ⟨gl,0,none⟩) n n) :=
 h.web.keep (h.low_block hu hg wb h.low.2.2.2.1)
theorem WbI.ucellG {wm w w':World} {B2 wb gu gl n:Nat} {sv:Value} {us:List Iv} {ls:List Int} (h:WbI wm w B2 wb gu gl n sv us ls) {k:Nat} {u:Iv} (hu:us[k]? = some u) (hg:w.grownBy w' u.v.ownBlock):w'.cell? ⟨gu,k,none⟩=some u.v:=by
 have h1:RwX encIv 52 w' gu us:=h.usr.keep (h.low_block hu hg gu h.low.2.2.2.2.1)
 rw [cell_of_row w' gu k _ _ _ h1,all_encIv];simp [hu]
theorem WbI.ufrozen {wm w w':World} {B2 wb gu gl n:Nat} {sv:Value} {us:List Iv} {ls:List Int} (h:WbI wm w B2 wb gu gl n sv us ls) {k:Nat} {u:Iv} (hu:us[k]? = some u) (hg:w.grownBy w' u.v.ownBlock) (j:Nat):w'.frozen? ⟨gu,j,none⟩=false :=
 frozen_of_row w' gu j _ _ (h.usr.keep (h.low_block hu hg gu h.low.2.2.2.2.1))
theorem run_mapHint (m:Int) (w:World):(Instr.makeMap 50 (some (.int .i64 m))).run Tryz.prog w = .ok (.map (some w.heap.size)) (w.alloc (.map #[] 0)):=by
 simp [Instr.makeMap,run_underlying Tryz.underlying50,go_sem]
def NdB (w:World) (A:Option Addr) (n cap:Nat) (l:List Spt) (nd:Spt→List Spt):Prop:=∀ s∈l,∀ w1,Below w.heap.size w w1→Calls Tryz.prog 16 #[.agg #[.slice A n cap],.agg #[.string s.nm,.int .i64 (s.r:Int),.int .i64 (s.c:Int)]] w1 fun e w'=>Below w1.heap.size w1 w'∧∃ v,e = .returned v∧Own encSp 35 w' w1.heap.size v (nd s)
structure WebR (w w':World) (l:List Spt) (nd:Spt→List Spt) (e:Ending):Prop where
 ex:∃ (wm:World) (B2 wb gu gl:Nat) (A:Option Addr) (cap:Nat) (us:List Iv) (ls:List Int),e = .returned (.pointer (some ⟨wb,0,none⟩))∧Below w.heap.size w wm∧WbI wm w' B2 wb gu gl l.length (.slice A l.length cap) us ls∧SE encSp w' wm.heap.size (.slice A l.length cap) l∧(us.map (·.l),ls)=webF l nd l.length
set_option maxRecDepth 100000 in
set_option maxHeartbeats 32000000 in
theorem webOf_any (w:World) (A:Option Addr) (n cap:Nat) (shs:List Sv) (f:ByteArray→Bool) (l:List Spt) (nd:Spt→List Spt) (M:Nat) (h:BkR w w.heap.size (.slice A n cap) shs) (hn:n≤10) (hsz:∀ s∈shs,s.rows.length≤100∧∀ r∈s.rows,r.l.length≤100) (hF:FmB f w shs) (hl:fShs f shs=l)
 (hd:∀ (i j:Nat) s,l[i]? = some s→l[j]? = some s→i=j) (hs:∀ s∈l,SpSz s) (hns:∀ s∈l,∀ t∈nd s,SpSz t) (hL:l.length≤100000) (hM:∀ s∈l,(nd s).length≤M) (hLM:M≤10000000) (hN:NdB w A n cap l nd) :
 Calls Tryz.prog 8 #[.agg #[.slice A n cap]] w fun e w'=>Below w.heap.size w w'∧WebR w w' l nd e:=by
 have HB:=Lib.hid (below_bk w (.slice A n cap))
 have HA:=Lib.hid (BkAt.new w (.slice A n cap))
 have HX:=Lib.hid (h.lift HB.out)
 have hmm:=run_mapHint
 have HN:=Lib.hid hN;have HD:=Lib.hid hd;have HS:=Lib.hid hs;have HNS:=Lib.hid hns;have HM:=Lib.hid hM
 have hff:=formulas_any (w.alloc (.cells #[.slice A n cap] 32)) A n cap shs f HX.out hn hsz (fun s hs r hr x hx w1 h1=>hF s hs r hr x hx w1 (HB.out.trans (h1.mono HB.out.size)))
 rw [hl] at hff
 have HFF:=Lib.hid hff
 obtain ⟨L,hLL⟩:∃ L,l.length=L:=⟨_,rfl⟩
 rw [hLL] at hL
 have HLL:=Lib.hid hLL
 have hmk:=fun w=>run_mkI L (by omega) w
 have hmu:=fun w=>run_mkU L (by omega) w
 clear h hsz hF hl hd hs hns hM hN hff hLL
 go_enter Tryz.func8,Tryz.ntmps8
 go_upto_region 1 with (fail)
 obtain ⟨w1,hw1⟩:∃ w1,w.alloc (.cells #[.slice A n cap] 32)=w1:=⟨_,rfl⟩
 rw [hw1] at HB HA HFF ⊢
 clear hw1 HX
 have b0:=HA.out.cell
 go_upto_region 2 with (go_at_call 15;((with_reducible refine HFF.out.mono ?_);rintro e w2 ⟨h1,v2,rfl,h2⟩;have H2:=Lib.hid h1;have HO2:=Lib.hid h2;clear h1 h2 b0))
 obtain ⟨As,cs,rfl⟩:=own_sl HO2.out
 rw [HLL.out] at HO2 ⊢
 have HSE:=Lib.hid (show SE encSp w2 w2.heap.size (.slice As L cs) l from HO2.out.se)
 go_upto_region 4 with (fail)
 have HM3:=Lib.hid (SpM.made w2)
 have HB3:=Lib.hid (show Below w2.heap.size w2 (w2.alloc (.map #[] 0)) from (Below.refl _ _).alloc (Nat.le_refl _) _)
 obtain ⟨w3,hw3⟩:∃ w3,w2.alloc (.map #[] 0)=w3:=⟨_,rfl⟩
 obtain ⟨mb,hmb⟩:∃ mb,w2.heap.size=mb:=⟨_,rfl⟩
 have HMB:=Lib.hid hmb
 rw [hw3] at HM3 HB3 ⊢
 rw [hmb] at HM3 ⊢
 clear hw3 hmb hmm HFF
 go_loopw [21] (fun iv wr=>∃ i:Nat,i≤L∧iv = .int .i64 (i:Int)∧Hid (SpM wr mb (esL (l.take i)))∧Hid (Below w2.heap.size w2 wr))
  (fun iv _=>L - (intOf iv).toNat)
 case atStart=>exact ⟨0,Nat.zero_le _,rfl,Lib.hid (by rw [List.take_zero];exact HM3.out),HB3⟩
 case round =>
  obtain ⟨i,hi,rfl,HP,HR⟩:=hrel
  by_cases hlt:i<L
  · have hii:(i:Int)<(L:Int):=by omega
    have hi0:(0:Int)≤(i:Int):=by omega
    obtain ⟨s,hs⟩:∃ s,l[i]? = some s:=⟨_,List.getElem?_eq_getElem (by rw [HLL.out];exact hlt)⟩
    obtain ⟨pb,po,rfl,hpb,e0,e1,e2⟩:=sp_at HSE.out hs
    have x0:=(HR.out.cell (p:=⟨pb,po+i*3,none⟩) hpb).trans e0
    have x1:=(HR.out.cell (p:=⟨pb,po+i*3+1,none⟩) hpb).trans e1
    have x2:=(HR.out.cell (p:=⟨pb,po+i*3+2,none⟩) hpb).trans e2
    have hb5:=below_spt wr s
    obtain ⟨y0,y1,y2⟩:=spt_new wr s
    obtain ⟨w6,hrun,hsp,hsz,hg⟩:=(HP.out.below hb5 HP.out.lt).put (fun p hp=>by obtain ⟨k,h1,_⟩:=esL_mem hp;exact HS.out p.1 (List.mem_of_mem_take (List.mem_of_getElem? h1))) s (HS.out s (List.mem_of_getElem? hs)) (fun p hp e=>by
     obtain ⟨k,h1,_⟩:=esL_mem hp
     rw [List.getElem?_take] at h1
     split at h1
     · rename_i hk
       rw [e] at h1
       have:=HD.out k i s h1 hs;omega
     · cases h1) (.int .i64 (i:Int))
    rw [← esL_succ l i s hs] at hsp
    have HSP:=Lib.hid hsp
    have HR5:=HR.out.trans (hb5.mono HR.out.size)
    have HR6:=Lib.hid (HR5.grown hg HR5.size (fun g e=>by injection e with e;rw [← e,HMB.out];exact Nat.le_refl _))
    have hrun2:(Instr.mapUpdate 50 (.map (some mb)) (.agg #[.string s.nm,.int .i64 (s.r:Int),.int .i64 (s.c:Int)]) (.int .i64 (i:Int))).run Tryz.prog (wr.alloc (.cells #[.string s.nm,.int .i64 (s.r:Int),.int .i64 (s.c:Int)] 35)) = .ok () w6:=hrun
    clear hs e0 e1 e2 hpb hrun hsp hsz hg HR5 hb5
    go_wp2_with fail
    go_roundw
    case rel=>exact ⟨i+1,by omega,by go_num,HSP,HR6⟩
    case measure=>simp [intOf];omega
  · have hii : ¬ (i:Int)<(L:Int):=by omega
    have HPM:=Lib.hid (show SpM wr mb (esL l) from by have h:=HP.out;rw [List.take_of_length_le (by rw [HLL.out];omega)] at h;exact h)
    have HRM:=Lib.hid HR.out
    clear HP HR HM3 HB3
    go_upto_region 8 with (fail)
    go_cut [7] (fun pv wx=>∃ (B2 wb gu gl:Nat) (wu:World),pv = .pointer (some ⟨wb,0,none⟩)∧wu=wx∧Hid (WbI wr wu B2 wb gu gl L (.slice As L cs) (List.replicate L nilI) (List.replicate L 0)))
    case first =>
     have HD0:=Lib.hid (Below.drew (Below.refl wr.heap.size wr))
     go_region_held3 (fun _=>True) (trivial) (fail)
     all_goals go_wp2_with fail
     all_goals go_meet
     all_goals first
      | exact ⟨_,_,_,_,_,rfl,rfl,Lib.hid (web_UI wr _ L _ HD0.out)⟩
      | exact ⟨_,_,_,_,_,rfl,rfl,Lib.hid (web_IU wr _ L _ HD0.out)⟩
    case rest =>
     obtain ⟨B2,wb,gu,gl,wu,rfl,rfl,HW0⟩:=hcut
     obtain ⟨wm,hwm⟩:∃ wm,wm=wr:=⟨wr,rfl⟩
     subst hwm
     clear hmk hmu
     go_upto_region 10 with (fail)
     go_loopw [41] (fun iv wx=>∃ (i:Nat) (us:List Iv) (ls:List Int),i≤L∧iv = .int .i64 (i:Int)∧Hid (WbI wm wx B2 wb gu gl L (.slice As L cs) us ls)∧Hid ((us.map (·.l),ls)=webF l nd i)∧Hid (Bnd us ls (i*M)))
      (fun iv _=>L - (intOf iv).toNat)
     case atStart=>exact ⟨0,_,_,Nat.zero_le _,rfl,HW0,Lib.hid (by unfold webF;rw [HLL.out,List.map_replicate];rfl),Lib.hid ⟨fun u hu=>by rw [List.eq_of_mem_replicate hu];exact Nat.zero_le _,fun x hx=>by rw [List.eq_of_mem_replicate hx];omega⟩⟩
     case round =>
      clear HW0
      obtain ⟨i,us,ls,hi,rfl,HW,HE,HBd⟩:=hrel
      have HMr:=Lib.hid (HRM.out.trans (HW.out.aft.mono HRM.out.size))
      have H1r:=Lib.hid (H2.out.trans (HMr.out.mono H2.out.size))
      by_cases hlt:i<L
      · have hii:(i:Int)<(L:Int):=by omega
        have hi0:(0:Int)≤(i:Int):=by omega
        obtain ⟨s,hs⟩:∃ s,l[i]? = some s:=⟨_,List.getElem?_eq_getElem (by rw [HLL.out];exact hlt)⟩
        obtain ⟨pb,po,rfl,hpb,e0,e1,e2⟩:=sp_at HSE.out hs
        have x0:=(HMr.out.cell (p:=⟨pb,po+i*3,none⟩) hpb).trans e0
        have x1:=(HMr.out.cell (p:=⟨pb,po+i*3+1,none⟩) hpb).trans e1
        have x2:=(HMr.out.cell (p:=⟨pb,po+i*3+2,none⟩) hpb).trans e2
        have hms:=List.mem_of_getElem? hs
        have HNX:=Lib.hid (webF_succ l nd i s hs)
        have hms2:=HM.out s hms
        have HB5:=Lib.hid (below_spt wr s)
        obtain ⟨y0,y1,y2⟩:=spt_new wr s
        have HNS2:=Lib.hid (HNS.out s hms)
        clear hs e0 e1 e2 hpb
        go_upto_region 12 with (fail)
        clear x0 x1 x2
        obtain ⟨w5,hw5⟩:∃ w5,wr.alloc (.cells #[.string s.nm,.int .i64 (s.r:Int),.int .i64 (s.c:Int)] 35)=w5:=⟨_,rfl⟩
        generalize hz:wr.heap.size=z at y0 y1 y2 ⊢
        rw [hw5] at HB5 y0 y1 y2 ⊢
        clear hw5 hz
        have H15:=Lib.hid (H1r.out.trans (HB5.out.mono H1r.out.size))
        have b0:=(HA.out.over H15.out).cell
        have HND:=Lib.hid (HN.out s hms w5 (HB.out.trans (H15.out.mono HB.out.size)))
        have HW5:=Lib.hid (HW.out.next HB5.out)
        obtain ⟨ns,hns⟩:∃ ns,nd s=ns:=⟨_,rfl⟩
        obtain ⟨m,hm⟩:∃ m,ns.length=m:=⟨_,rfl⟩
        rw [hns] at HND HNX hms2 HNS2
        rw [hm] at hms2
        have HLM:=Lib.hid hm
        clear hms HW hns hm
        go_wp2_with (go_at_call 16;((with_reducible refine HND.out.mono ?_);rintro e w6 ⟨h1,vN,rfl,h2⟩;obtain ⟨An,cn,rfl⟩:=own_sl h2;have HW6:=Lib.hid (HW5.out.next h1);have HO6:=Lib.hid h2;clear h1 h2 b0 y0 y1 y2))
        rw [HLM.out] at HO6 ⊢
        have HB2:=Lib.hid (show B2≤w5.heap.size from HW5.out.size)
        clear HW5 HND
        go_loopw [50] (fun jv wx=>∃ (j:Nat) (us:List Iv) (ls:List Int),j≤m∧jv = .int .i64 (j:Int)∧Hid (WbI wm wx B2 wb gu gl L (.slice (some ⟨pb,po,none⟩) L cs) us ls)∧Hid ((us.map (·.l),ls)=(ns.take j).foldl (stepW l i) (webF l nd i))∧Hid (Bnd us ls (i*M+j))∧Hid (Own encSp 35 wx w5.heap.size (.slice An m cn) ns))
         (fun jv _=>m - (intOf jv).toNat)
        case atStart=>exact ⟨0,us,ls,Nat.zero_le _,rfl,HW6,Lib.hid (by rw [List.take_zero];exact HE.out),HBd,HO6⟩
        case round =>
         clear HW6 HE HBd HO6
         obtain ⟨j,us,ls,hj,rfl,HW,HE,HBd,HO⟩:=hrel
         by_cases hjt:j<m
         · have hji:(j:Int)<(m:Int):=by omega
           have hj0:(0:Int)≤(j:Int):=by omega
           obtain ⟨t,ht⟩:∃ t,ns[j]? = some t:=⟨_,List.getElem?_eq_getElem (by rw [HLM.out];exact hjt)⟩
           obtain ⟨qb,qo,rfl,hqb,x0,x1,x2⟩:=sp_at HO.out.se ht
           have HFS:=Lib.hid (fold_succ (stepW l i) (webF l nd i) ns j t ht)
           have hst:=HNS2.out t (List.mem_of_getElem? ht)
           have HB7:=Lib.hid (below_spt wr t)
           obtain ⟨y0,y1,y2⟩:=spt_new wr t
           clear ht hqb
           go_upto_region 15 with (fail)
           clear x0 x1 x2
           obtain ⟨w7,hw7⟩:∃ w7,wr.alloc (.cells #[.string t.nm,.int .i64 (t.r:Int),.int .i64 (t.c:Int)] 35)=w7:=⟨_,rfl⟩
           generalize hz:wr.heap.size=z7 at y0 y1 y2 ⊢
           rw [hw7] at HB7 y0 y1 y2 ⊢
           have HW7:=Lib.hid (HW.out.next HB7.out)
           have HO7:=Lib.hid (HO.out.below HB7.out (Nat.le_refl _))
           clear hw7 hz HO HW
           have HP7:=HPM.out.below HW7.out.aft HPM.out.lt
           have hpz:∀ p∈esL l,SpSz p.1:=fun p hp=>by obtain ⟨k,h1,_⟩:=esL_mem hp;exact HS.out p.1 (List.mem_of_getElem? h1)
           cases hps:posS l t with
           | none =>
             have hno:=posS_none hps
             have hrun:(Instr.lookup 50 (.map (some mb)) (.agg #[.string t.nm,.int .i64 (t.r:Int),.int .i64 (t.c:Int)]) true).run Tryz.prog w7 = .ok (.tuple #[.int .i64 0,.bool false]) w7:=HP7.miss hpz t hst (fun p hp e=>by obtain ⟨k,h1,_⟩:=esL_mem hp;exact hno p.1 (List.mem_of_getElem? h1) e)
             have HST:=Lib.hid (show ∀ st,stepW l i st t=st from fun st=>by unfold stepW;rw [hps])
             clear hno hps HP7 hpz hst
             go_wp2_with fail
             go_roundw
             case rel=>exact ⟨j+1,us,ls,by omega,by go_num,HW7,Lib.hid (by rw [HFS.out,HST.out];exact HE.out),Lib.hid (HBd.out.up (by omega)),HO7⟩
             case measure=>simp [intOf];omega
           | some k =>
             have hlk:=posS_some hps
             have hkL:k<L:=by have h:=(List.getElem?_eq_some_iff.1 hlk).1;rw [HLL.out] at h;exact h
             have hrun:(Instr.lookup 50 (.map (some mb)) (.agg #[.string t.nm,.int .i64 (t.r:Int),.int .i64 (t.c:Int)]) true).run Tryz.prog w7 = .ok (.tuple #[.int .i64 (k:Int),.bool true]) w7:=HP7.find hpz t hst (.int .i64 (k:Int)) (esL_in hlk) (fun p hp e=>by
              obtain ⟨k',h1,h2⟩:=esL_mem hp
              rw [e] at h1
              rw [h2,HD.out k' k t h1 hlk])
             have HST:=Lib.hid (show ∀ st,stepW l i st t=(st.1.set k (st.1.getD k []++[(i:Int)]),st.2.set i (st.2.getD i 0+1)) from fun st=>by unfold stepW;rw [hps])
             clear hps HP7 hpz hst hlk
             have hki:(k:Int)<(L:Int):=by omega
             have hk0:(0:Int)≤(k:Int):=by omega
             obtain ⟨u,hu⟩:∃ u,us[k]? = some u:=⟨_,List.getElem?_eq_getElem (by rw [HW7.out.ul];exact hkL)⟩
             obtain ⟨x,hx⟩:∃ x,ls[i]? = some x:=⟨_,List.getElem?_eq_getElem (by rw [HW7.out.ll];exact hlt)⟩
             have HU:=Lib.hid hu;have HXx:=Lib.hid hx
             have hxb:=HBd.out.2 x (List.mem_of_getElem? hx)
             have hub:=HBd.out.1 u (List.mem_of_getElem? hu)
             have hiM:i*M≤100000*10000000:=Nat.mul_le_mul (by omega) hLM
             have HUB:=Lib.hid (show u.l.length≤1000010000000 by omega)
             have hxw:IntKind.i64.wrap (x+1)=x+1:=by rw [IntKind.wrap_i64];omega
             clear hu hx hub hiM
             go_upto_region 17 with (fail)
             clear hrun y0 y1 y2
             have HWD:=Lib.hid (HW7.out.next (Below.drew (Below.refl w7.heap.size w7)))
             have HBA:=Lib.hid (show Below w7.drew.heap.size w7.drew (w7.drew.alloc (.cells #[.int .i64 (i:Int)] 3)) from (Below.refl _ _).alloc (Nat.le_refl _) _)
             have HWA:=Lib.hid (HWD.out.next HBA.out)
             have HOU:=Lib.hid (HWA.out.each u (List.mem_of_getElem? HU.out))
             have c0:w7.drew.cell? ⟨gu,k,none⟩=some (.slice u.A u.l.length u.cap):=HWD.out.ucell HU.out
             have c1:(w7.drew.alloc (.cells #[.int .i64 (i:Int)] 3)).cell? ⟨gu,k,none⟩=some (.slice u.A u.l.length u.cap):=HWA.out.ucell HU.out
             have c2:(w7.alloc (.cells #[.int .i64 (i:Int)] 3)).cell? ⟨gu,k,none⟩=some (.slice u.A u.l.length u.cap):=c1
             refine wp_region_held_drew (S:=fun W=>W.cell? ⟨wb,1,none⟩=some (.slice (some ⟨gu,0,none⟩) L L)) (by kernel_rfl) HWD.out.web.cells.2.1 (fun _ => ?_)
             show wpAnyH _ _ _ _ _ 17 #[false,false,false,false,false,false,false,false,false,false,false,false,false,false,false,false,false] _ _
             refine hU 0 HWD.out.web.cells.2.1 ?_
             refine hU 1 HWD.out.web.cells.2.1 ?_
             refine hU 2 HWD.out.web.cells.2.1 ?_
             refine hU 3 HWD.out.web.cells.2.1 ?_
             refine hU 4 HWD.out.web.cells.2.1 ?_
             refine hU 5 HWD.out.web.cells.2.1 ?_
             refine hU 6 HWD.out.web.cells.2.1 ?_
             refine hU 7 HWD.out.web.cells.2.1 ?_
             refine hU 8 HWD.out.web.cells.2.1 ?_
             refine hU 9 HWD.out.web.cells.2.1 ?_
             refine hU 10 HWD.out.web.cells.2.1 ?_
             refine hU 12 HWD.out.web.cells.2.1 ?_
             refine hP 11 13 (fun K hK => ?_) (fun K hK => ?_)
             · go_simp
               refine hK.out _ _ HWD.out.web.cells.2.1 ?_
               clear hK K
               simp only [Act.put,sT,sZ,sS]
               refine hO 13 (fun K hK => ?_)
               go_simp
               refine hK.out _ _ HWA.out.web.cells.2.1 ?_
               clear hK K
               simp only [Act.put,sT,sZ,sS]
               refine hO 14 (fun K hK => ?_)
               refine wp_app_at Elem.it (encInt .i64) (.tmp 72) (.tmp 74) rfl B2 (.slice u.A u.l.length u.cap) u.l ?_ HOU.out ⟨w7.drew.heap.size,0,none⟩ 1 1 [(i:Int)] ?_ rfl ?_ ?_ ?_ ?_ ?_
               · go_simp
               · go_simp
               · exact cells_new _ _ _ rfl
               · have h:=HUB.out;omega
               · have h:=HUB.out;unfold maxLen;omega
               · exact HWA.out.size
               intro v8 w8 h1 h2 h3
               obtain ⟨A8,c8,hv⟩:=own_sl h1
               rw [List.length_append,List.length_singleton] at hv
               subst hv
               have hv8:Iv.v ⟨A8,c8,u.l++[(i:Int)]⟩ = .slice A8 (u.l.length+1) c8:=by unfold Iv.v;rw [List.length_append,List.length_singleton]
               have HP8:=Lib.hid (HWA.out.push k u ⟨A8,c8,u.l++[(i:Int)]⟩ HU.out (by rw [hv8];exact h1) h2 (by rw [hv8];exact h3))
               rw [hv8] at HP8
               have hwb:=HWA.out.webG HU.out h2
               have hfz:=HWA.out.ufrozen HU.out h2 k
               have huc:=HWA.out.ucellG HU.out h2
               have HO8:=Lib.hid (((HO7.out.drew).below HBA.out (Nat.le_refl _)).keep fun g _ hl e=>h2.block g hl (((HO7.out.drew).below HBA.out (Nat.le_refl _)).away HOU.out (by decide) e))
               clear h1 h2 h3 hv8
               refine hK.out _ _ hwb.cells.2.1 ?_
               clear hK K
               simp only [Act.put,sT,sZ,sS]
               refine hU 15 hwb.cells.2.1 ?_
               refine hO 16 (fun K hK => ?_)
               go_simp
               refine hK.out undef _ HP8.out.web.cells.2.1 ?_
               clear hK K hwb hfz huc
               simp only [Act.put]
               refine wpAnyH_done (by kernel_rfl) ?_ _
               have HO9:=Lib.hid (HO8.out.keep fun g hl _ _=>heap_setCell_other w8 ⟨gu,k,none⟩ g (.slice A8 (u.l.length+1) c8) (by have h1:=HP8.out.low;have h2:=HB2.out;show g≠gu;omega))
               obtain ⟨w9,hw9⟩:∃ w9,w8.setCell ⟨gu,k,none⟩ (.slice A8 (u.l.length+1) c8)=w9:=⟨_,rfl⟩
               rw [hw9] at HP8 HO9 ⊢
               clear hw9
               have d2:=HP8.out.web.cells.2.2
               have l0:=HP8.out.lcell HXx.out
               have l1:=HP8.out.lfrozen i
               have HQ:=Lib.hid (HP8.out.inc i (x+1))
               have HOZ:=Lib.hid (HO9.out.keep fun g hl _ _=>heap_setCell_other w9 ⟨gl,i,none⟩ g (.int .i64 (x+1)) (by have h1:=HP8.out.low;have h2:=HB2.out;show g≠gl;omega))
               go_wp2_with fail
               go_roundw
               case rel=>exact ⟨j+1,_,_,by omega,by go_num,HQ,Lib.hid (by rw [HFS.out,HST.out, ← HE.out];exact step_eq HU.out HXx.out),Lib.hid (HBd.out.step HU.out HXx.out),HOZ⟩
               case measure=>simp [intOf];omega
             · go_simp
               refine hK.out _ _ HWA.out.web.cells.2.1 ?_
               clear hK K
               simp only [Act.put,sT,sZ,sS]
               refine hO 11 (fun K hK => ?_)
               go_simp
               refine hK.out _ _ HWA.out.web.cells.2.1 ?_
               clear hK K
               simp only [Act.put,sT,sZ,sS]
               refine hO 14 (fun K hK => ?_)
               refine wp_app_at Elem.it (encInt .i64) (.tmp 72) (.tmp 74) rfl B2 (.slice u.A u.l.length u.cap) u.l ?_ HOU.out ⟨w7.drew.heap.size,0,none⟩ 1 1 [(i:Int)] ?_ rfl ?_ ?_ ?_ ?_ ?_
               · go_simp
               · go_simp
               · exact cells_new _ _ _ rfl
               · have h:=HUB.out;omega
               · have h:=HUB.out;unfold maxLen;omega
               · exact HWA.out.size
               intro v8 w8 h1 h2 h3
               obtain ⟨A8,c8,hv⟩:=own_sl h1
               rw [List.length_append,List.length_singleton] at hv
               subst hv
               have hv8:Iv.v ⟨A8,c8,u.l++[(i:Int)]⟩ = .slice A8 (u.l.length+1) c8:=by unfold Iv.v;rw [List.length_append,List.length_singleton]
               have HP8:=Lib.hid (HWA.out.push k u ⟨A8,c8,u.l++[(i:Int)]⟩ HU.out (by rw [hv8];exact h1) h2 (by rw [hv8];exact h3))
               rw [hv8] at HP8
               have hwb:=HWA.out.webG HU.out h2
               have hfz:=HWA.out.ufrozen HU.out h2 k
               have huc:=HWA.out.ucellG HU.out h2
               have HO8:=Lib.hid (((HO7.out.drew).below HBA.out (Nat.le_refl _)).keep fun g _ hl e=>h2.block g hl (((HO7.out.drew).below HBA.out (Nat.le_refl _)).away HOU.out (by decide) e))
               clear h1 h2 h3 hv8
               refine hK.out _ _ hwb.cells.2.1 ?_
               clear hK K
               simp only [Act.put,sT,sZ,sS]
               refine hU 15 hwb.cells.2.1 ?_
               refine hO 16 (fun K hK => ?_)
               go_simp
               refine hK.out undef _ HP8.out.web.cells.2.1 ?_
               clear hK K hwb hfz huc
               simp only [Act.put]
               refine wpAnyH_done (by kernel_rfl) ?_ _
               have HO9:=Lib.hid (HO8.out.keep fun g hl _ _=>heap_setCell_other w8 ⟨gu,k,none⟩ g (.slice A8 (u.l.length+1) c8) (by have h1:=HP8.out.low;have h2:=HB2.out;show g≠gu;omega))
               obtain ⟨w9,hw9⟩:∃ w9,w8.setCell ⟨gu,k,none⟩ (.slice A8 (u.l.length+1) c8)=w9:=⟨_,rfl⟩
               rw [hw9] at HP8 HO9 ⊢
               clear hw9
               have d2:=HP8.out.web.cells.2.2
               have l0:=HP8.out.lcell HXx.out
               have l1:=HP8.out.lfrozen i
               have HQ:=Lib.hid (HP8.out.inc i (x+1))
               have HOZ:=Lib.hid (HO9.out.keep fun g hl _ _=>heap_setCell_other w9 ⟨gl,i,none⟩ g (.int .i64 (x+1)) (by have h1:=HP8.out.low;have h2:=HB2.out;show g≠gl;omega))
               go_wp2_with fail
               go_roundw
               case rel=>exact ⟨j+1,_,_,by omega,by go_num,HQ,Lib.hid (by rw [HFS.out,HST.out, ← HE.out];exact step_eq HU.out HXx.out),Lib.hid (HBd.out.step HU.out HXx.out),HOZ⟩
               case measure=>simp [intOf];omega
         · have hji:¬ (j:Int)<(m:Int):=by omega
           go_wp2_with fail
           go_roundw
           case rel=>exact ⟨i+1,us,ls,by omega,by go_num,HW,Lib.hid (by rw [HNX.out];have h:=HE.out;rw [List.take_of_length_le (by rw [HLM.out];omega)] at h;exact h),Lib.hid (HBd.out.up (by rw [Nat.add_mul,Nat.one_mul];omega))⟩
           case measure=>simp [intOf];omega
      · have hii:¬ (i:Int)<(L:Int):=by omega
        have hiL:i=L:=by omega
        subst hiL
        go_wp2_with fail
        go_ret
        have HBw:=HB.out.trans (H1r.out.mono HB.out.size)
        have HBm:=HB.out.trans ((H2.out.trans (HRM.out.mono H2.out.size)).mono HB.out.size)
        refine ⟨HBw,⟨wm,B2,wb,gu,gl,As,cs,us,ls,rfl,HBm, ?_, ?_, ?_⟩⟩
        · rw [HLL.out];exact HW.out
        · rw [HLL.out];exact (HSE.out.below HMr.out (Nat.le_refl _)).mono HRM.out.size
        · rw [HLL.out];exact HE.out
def HpAt (w:World) (b:Nat) (v:Value):Prop:=w.heap[b]? = some (.cells #[v] 62)
theorem HpAt.new (w:World) (v:Value):HpAt (w.alloc (.cells #[v] 62)) w.heap.size v:=(Go.MapKept.heap_alloc w _).1
theorem HpAt.lt {w:World} {b:Nat} {v:Value} (h:HpAt w b v):b<w.heap.size:=(Array.getElem?_eq_some_iff.1 h).1
theorem HpAt.over {w w':World} {b:Nat} {v:Value} (h:HpAt w b v) (hb:Below w.heap.size w w'):HpAt w' b v:=by unfold HpAt;rw [hb.block b h.lt];exact h
theorem HpAt.cell {w:World} {b:Nat} {v:Value} (h:HpAt w b v):w.cell? ⟨b,0,none⟩=some v:=by rw [cell_of_row w b 0 _ _ _ h];rfl
set_option maxRecDepth 100000 in
set_option maxHeartbeats 4000000 in
theorem free_none (wm w:World) (B2 wb gu gl n:Nat) (sv:Value) (us:List Iv) (ls:List Int) (h:WbI wm w B2 wb gu gl n sv us ls) (hn:n≤1000000) (hne:∀ x∈ls,x≠0) :
 Calls Tryz.prog 17 #[.pointer (some ⟨wb,0,none⟩)] w fun e w'=>Below w.heap.size w w'∧∃ b,e = .returned (.pointer (some ⟨b,0,none⟩))∧HpAt w' b (.slice none 0 0):=by
 have HB:=Lib.hid (show Below w.heap.size w (w.alloc (.cells #[.slice none 0 0] 62)) from (Below.refl _ _).alloc (Nat.le_refl _) _)
 have HR0:=Lib.hid (HpAt.new w (.slice none 0 0))
 have HW:=Lib.hid (h.next HB.out)
 have HNE:=Lib.hid hne
 clear h hne
 go_enter Tryz.func17,Tryz.ntmps17
 go_upto_region 2 with (fail)
 obtain ⟨w1,hw1⟩:∃ w1,w.alloc (.cells #[.slice none 0 0] 62)=w1:=⟨_,rfl⟩
 generalize hz:w.heap.size=z at HR0 ⊢
 rw [hw1] at HB HR0 HW ⊢
 clear hw1 hz
 obtain ⟨d0,d1,d2⟩:=HW.out.web.cells
 go_upto_region 3 with (fail)
 go_loopw [13] (fun iv wr=>∃ i:Nat,i≤n∧iv = .int .i64 (i:Int)∧w1=wr)
  (fun iv _=>n - (intOf iv).toNat)
 case atStart=>exact ⟨0,Nat.zero_le _,rfl,rfl⟩
 case round =>
  obtain ⟨i,hi,rfl,rfl⟩:=hrel
  by_cases hlt:i<n
  · have hii:(i:Int)<(n:Int):=by omega
    have hi0:(0:Int)≤(i:Int):=by omega
    obtain ⟨x,hx⟩:∃ x,ls[i]? = some x:=⟨_,List.getElem?_eq_getElem (by rw [HW.out.ll];exact hlt)⟩
    have l0:=HW.out.lcell hx
    have hx0:=HNE.out x (List.mem_of_getElem? hx)
    have hxb:(x == 0)=false:=beq_eq_false_iff_ne.2 hx0
    clear hx
    go_wp2_with fail
    go_roundw
    case rel=>exact ⟨i+1,by omega,by go_num,(by first | rfl | trivial)⟩
    case measure=>simp [intOf];omega
  · have hii:¬ (i:Int)<(n:Int):=by omega
    go_wp2_with fail
    go_ret
    exact ⟨HB.out,_,rfl,HR0.out⟩
set_option maxRecDepth 100000 in
theorem len0_any (w:World):Calls Tryz.prog 18 #[.slice none 0 0] w fun e w'=>e = .returned (.int .i64 0)∧w=w':=by
 go_enter Tryz.func18,Tryz.ntmps18
 go_wp2
 go_ret
 exact ⟨rfl,rfl⟩
set_option maxRecDepth 100000 in
set_option maxHeartbeats 4000000 in
theorem unwind_none (wm w:World) (B2 wb gu gl n:Nat) (sv:Value) (us:List Iv) (ls:List Int) (h:WbI wm w B2 wb gu gl n sv us ls) (hn:n≤1000000) (hne:∀ x∈ls,x≠0) :
 Calls Tryz.prog 9 #[.pointer (some ⟨wb,0,none⟩)] w fun e w'=>Below w.heap.size w w'∧e = .returned (.slice none 0 0):=by
 have HF:=Lib.hid (free_none wm w B2 wb gu gl n sv us ls h hn hne)
 clear h hne
 go_enter Tryz.func9,Tryz.ntmps9
 go_upto_region 3 with (go_at_call 17;((with_reducible refine HF.out.mono ?_);rintro e w1 ⟨h1,b,rfl,h2⟩;have HB:=Lib.hid h1;have HR:=Lib.hid h2;clear h1 h2))
 go_loopw [3] (fun ov wr=>ov = .slice none 0 0∧w1=wr) (fun _ _=>0)
 case atStart=>exact ⟨rfl,rfl⟩
 case round =>
  obtain ⟨rfl,rfl⟩:=hrel
  have r0:=HR.out.cell
  go_wp2_with (go_at_call 18;((with_reducible refine (len0_any _).mono ?_);rintro e w2 ⟨rfl,rfl⟩))
  go_ret
  exact ⟨HB.out,rfl⟩
def stuckL (l:List Spt) (ls:List Int) (k:Nat):List Spt:=(List.range k).flatMap fun i=>if 0<ls.getD i 0 then l[i]?.toList else []
theorem stuckL_succ (l:List Spt) (ls:List Int) (i:Nat) (s:Spt) (x:Int) (hs:l[i]? = some s) (hx:ls[i]? = some x):stuckL l ls (i+1)=stuckL l ls i++(if 0<x then [s] else []):=by
 unfold stuckL
 rw [List.range_succ,List.flatMap_append,List.flatMap_cons,List.flatMap_nil,List.append_nil,hs,List.getD_eq_getElem?_getD,hx];rfl
theorem stuckL_len (l:List Spt) (ls:List Int) (k:Nat):(stuckL l ls k).length≤k:=by
 induction k with
 | zero=>simp [stuckL]
 | succ k ih =>
   unfold stuckL at ih ⊢
   rw [List.range_succ,List.flatMap_append,List.flatMap_cons,List.flatMap_nil,List.append_nil,List.length_append]
   have:(if 0<ls.getD k 0 then l[k]?.toList else []).length≤1:=by
    split
    · cases l[k]? <;> simp
    · simp
   omega
set_option maxRecDepth 100000 in
set_option maxHeartbeats 4000000 in
theorem stuck_any (wm w:World) (B2 wb gu gl n:Nat) (A:Option Addr) (cap:Nat) (l:List Spt) (us:List Iv) (ls:List Int) (h:WbI wm w B2 wb gu gl n (.slice A n cap) us ls) (hs:SE encSp w wm.heap.size (.slice A n cap) l) (hn:n≤1000000) :
 Calls Tryz.prog 10 #[.pointer (some ⟨wb,0,none⟩)] w fun e w'=>Below w.heap.size w w'∧∃ v,e = .returned v∧Own encSp 35 w' w.heap.size v (stuckL l ls n):=by
 have HW:=Lib.hid h;have HS:=Lib.hid hs;have HL:=Lib.hid hs.len.1
 clear h hs
 obtain ⟨d0,d1,d2⟩:=HW.out.web.cells
 go_enter Tryz.func10,Tryz.ntmps10
 go_upto_region 3 with (fail)
 clear d0 d1 d2
 go_loopw [3,11] (fun ov iv wr=>∃ (i:Nat) (v:Value),i≤n∧v=ov∧iv = .int .i64 (i:Int)∧Hid (Own encSp 35 wr w.heap.size v (stuckL l ls i))∧Hid (Below w.heap.size w wr))
  (fun _ iv _=>n - (intOf iv).toNat)
 case atStart=>exact ⟨0,_,Nat.zero_le _,rfl,rfl,Lib.hid (Own.nil _ _ _ _),Lib.hid (Below.refl _ _)⟩
 case round =>
  obtain ⟨i,v,hi,rfl,rfl,HO,HR⟩:=hrel
  have HWr:=Lib.hid (HW.out.next HR.out)
  by_cases hlt:i<n
  · have hii:(i:Int)<(n:Int):=by omega
    have hi0:(0:Int)≤(i:Int):=by omega
    obtain ⟨s,hs⟩:∃ s,l[i]? = some s:=⟨_,List.getElem?_eq_getElem (by rw [HL.out];exact hlt)⟩
    obtain ⟨x,hx⟩:∃ x,ls[i]? = some x:=⟨_,List.getElem?_eq_getElem (by rw [HW.out.ll];exact hlt)⟩
    have l0:=HWr.out.lcell hx
    obtain ⟨d0,d1,d2⟩:=HWr.out.web.cells
    obtain ⟨pb,po,hA,hpb,e0,e1,e2⟩:=sp_at HS.out hs
    have hpw:pb<w.heap.size:=Nat.lt_of_lt_of_le hpb HW.out.aft.size
    have x0:=(HR.out.cell (p:=⟨pb,po+i*3,none⟩) hpw).trans e0
    have x1:=(HR.out.cell (p:=⟨pb,po+i*3+1,none⟩) hpw).trans e1
    have x2:=(HR.out.cell (p:=⟨pb,po+i*3+2,none⟩) hpw).trans e2
    have HSS:=Lib.hid (stuckL_succ l ls i s x hs hx)
    have HSL:=Lib.hid (stuckL_len l ls i)
    rw [hA] at d0
    clear hs hx hpb e0 e1 e2 hpw hA
    by_cases hxp:0<x
    · rw [if_pos hxp] at HSS
      go_wp2_with (at_builtin;refine wpList_app Elem.spt encSp rfl (.tmp 18) (.tmp 26) rfl w.heap.size v _ rfl (HO.out.below (below_spt wr s) (Nat.le_refl _)) ⟨_,0,none⟩ 1 1 [s] rfl rfl ?_ ?_ ?_ ?_ ?_;exact cells_new _ _ _ rfl;(have:=HSL.out;omega);(have:=HSL.out;unfold maxLen;omega);(have h2:=HR.out.size;rw [World.size_alloc];omega);intro v5 w5 h1 h2;have HO5:=Lib.hid h1;have HB5:=Lib.hid (HR.out.trans (((below_spt wr s).mono HR.out.size).trans h2));clear h1 h2)
      go_roundw
      case rel=>exact ⟨i+1,_,by omega,rfl,by go_num,Lib.hid (by rw [HSS.out];exact HO5.out),HB5⟩
      case measure=>simp [intOf];omega
    · rw [if_neg hxp,List.append_nil] at HSS
      go_wp2_with fail
      go_roundw
      case rel=>exact ⟨i+1,_,by omega,rfl,by go_num,Lib.hid (by rw [HSS.out];exact HO.out),HR⟩
      case measure=>simp [intOf];omega
  · have hii:¬ (i:Int)<(n:Int):=by omega
    have hin:i=n:=by omega
    subst hin
    go_wp2_with fail
    go_ret
    exact ⟨HR.out,_,rfl,HO.out⟩
set_option maxRecDepth 100000 in
set_option maxHeartbeats 4000000 in
theorem order_none (w:World) (A:Option Addr) (n cap:Nat) (l:List Spt) (nd:Spt→List Spt)
 (hmay:∀ w1,Below w.heap.size w w1→Calls Tryz.prog 7 #[.agg #[.slice A n cap]] w1 fun e w'=>e = .returned (.bool true)∧Below w1.heap.size w1 w')
 (hweb:∀ w1,Below w.heap.size w w1→Calls Tryz.prog 8 #[.agg #[.slice A n cap]] w1 fun e w'=>Below w1.heap.size w1 w'∧WebR w1 w' l nd e)
 (hL:l.length≤100000) (hne:∀ x∈(webF l nd l.length).2,x≠0) :
 Calls Tryz.prog 5 #[.agg #[.slice A n cap]] w fun e w'=>Below w.heap.size w w'∧∃ v,e = .returned (.tuple #[.slice none 0 0,v])∧Own encSp 35 w' w.heap.size v (stuckL l (webF l nd l.length).2 l.length):=by
 have HB:=Lib.hid (below_bk w (.slice A n cap))
 have HA:=Lib.hid (BkAt.new w (.slice A n cap))
 have HM:=Lib.hid (hmay _ HB.out)
 have HWB:=Lib.hid hweb
 have HNE:=Lib.hid hne
 clear hmay hweb hne
 go_enter Tryz.func5,Tryz.ntmps5
 go_upto_region 1 with (fail)
 obtain ⟨w1,hw1⟩:∃ w1,w.alloc (.cells #[.slice A n cap] 32)=w1:=⟨_,rfl⟩
 rw [hw1] at HB HA HM ⊢
 clear hw1
 have b0:=HA.out.cell
 go_upto_region 4 with (first
  | (go_at_call 7;((with_reducible refine HM.out.mono ?_);rintro e w2 ⟨rfl,h1⟩;have H2:=Lib.hid h1;have b2:=(HA.out.over h1).cell;clear h1 b0))
  | (go_at_call 8;((with_reducible refine (HWB.out _ (HB.out.trans (H2.out.mono HB.out.size))).mono ?_);rintro e w3 ⟨h1,hr⟩;obtain ⟨wm,B2,wb,gu,gl,As,cs,us,ls,rfl,hm,hw,hse,heq⟩:=hr.ex;have H3:=Lib.hid (H2.out.trans (h1.mono H2.out.size));have HW:=Lib.hid hw;have HS:=Lib.hid hse;have HE:=Lib.hid heq;clear h1 hm hw hse heq hr b2)))
 obtain ⟨L,hLL⟩:∃ L,l.length=L:=⟨_,rfl⟩
 have hls:ls=(webF l nd l.length).2:=by rw [← HE.out]
 have hn0:∀ x∈ls,x≠0:=by rw [hls];exact HNE.out
 have HU:=Lib.hid (unwind_none wm w3 B2 wb gu gl l.length _ us ls HW.out (by omega) hn0)
 have HLS:=Lib.hid hls
 clear hls hn0
 go_wp2_with (first
  | (go_at_call 9;((with_reducible refine HU.out.mono ?_);rintro e w4 ⟨h1,rfl⟩;have H4:=Lib.hid h1;clear h1))
  | (go_at_call 10;((with_reducible refine (stuck_any wm w4 B2 wb gu gl l.length As cs l us ls (HW.out.next H4.out) (HS.out.below H4.out HW.out.aft.size) (by omega)).mono ?_);rintro e w5 ⟨h1,v,rfl,h2⟩;have H5:=Lib.hid (H4.out.trans (h1.mono H4.out.size));have HO:=Lib.hid (h2.mono H4.out.size);clear h1 h2)))
 go_ret2
 have H15:=H3.out.trans (H5.out.mono H3.out.size)
 exact ⟨HB.out.trans (H15.mono HB.out.size),_,rfl,by rw [← HLS.out];exact HO.out.mono (by have h1:=HB.out.size;have h2:=H3.out.size;omega)⟩
def opS:List ByteArray:=[⟨#[61]⟩,⟨#[60,62]⟩,⟨#[60]⟩,⟨#[60,61]⟩,⟨#[62]⟩,⟨#[62,61]⟩,⟨#[38]⟩,⟨#[43]⟩,⟨#[45]⟩,⟨#[42]⟩,⟨#[47]⟩]
def rk (o:Nat):Nat:=if o<6 then 0 else if o<7 then 1 else if o<9 then 2 else 3
theorem rk_le (o:Nat):rk o≤3:=by
 unfold rk
 by_cases h1:o<6
 · rw [if_pos h1];omega
 · rw [if_neg h1]
   by_cases h2:o<7
   · rw [if_pos h2];omega
   · rw [if_neg h2]
     by_cases h3:o<9
     · rw [if_pos h3];omega
     · rw [if_neg h3];omega
theorem opK_sign (t:Tk) (ts:List Tk) (o:Nat) (ho:o<11) (hk:t.kind=5) (ht:t.text=opS.getD o ⟨#[]⟩) (n:Nat) (hn:n≤3):opK n (t :: ts)=if rk o=n then 9+(o:Int) else 0:=by
 have hs:∀ s:ByteArray,signIs s (t :: ts)=decide (opS.getD o ⟨#[]⟩=s):=by
  intro s;unfold signIs;simp only [hk,ht,decide_true,Bool.true_and]
 unfold opK
 simp only [hs]
 have key:∀ n:Nat,n<4→∀ o:Nat,o<11→(match (levelL n).find? (fun p=>decide (opS.getD o ⟨#[]⟩=p.1)) with | some p=>p.2 | none=>0)=if rk o=n then 9+(o:Int) else 0:=by decide +kernel
 exact key n (by omega) o ho
def Stop (n:Nat) (ts:List Tk):Prop:=∀ m,n≤m→m≤3→opK m ts=0
def lexG (p:Nat) (l:List Int):Option (List Tk):=lexF l.length p l
theorem lexG_nil (p:Nat):lexG p []=some [Tk.zero.goto p]:=by unfold lexG lexF;rfl
theorem lexG_tok (p:Nat) (x:Int) (l:List Int) (t:Tk) (n:Nat) (hx:x≠32) (h:tokT (x :: l)=some (t,n)):lexG p (x :: l)=(lexG (p+n) ((x :: l).drop n)).map (t.goto p :: ·):=by
 have hn:=tokT_le _ _ _ h
 unfold lexG
 rw [List.length_cons,lexF_cons,if_neg hx,h]
 simp only
 rw [lexF_more _ ((x :: l).drop n).length _ _ (by rw [List.length_drop];simp only [List.length_cons];omega) (Nat.le_refl _)]
theorem lexG_app (p:Nat) (a b:List Int) (t:Tk) (ha:∀ x,a.head? = some x→x≠32) (h:tokT (a++b)=some (t,a.length)):lexG p (a++b)=(lexG (p+a.length) b).map (t.goto p :: ·):=by
 cases a with
 | nil=>have:=(tokT_le _ _ _ h).1;simp at this
 | cons x a =>
   rw [List.cons_append] at h ⊢
   rw [lexG_tok p x (a++b) t _ (ha x rfl) h]
   congr 2
   rw [← List.cons_append,List.drop_left]
theorem tok_digits (v:Nat) (hv:v≤9223372036854775807) (b:List Int) (hb:∀ x,b.head? = some x→isNum x=false):tokT (digL v++b)=some ({ Tk.zero with kind:=1,num:=(v:Int) },(digL v).length):=by
 cases hd:digL v with
 | nil=>exact absurd hd (digL_ne v)
 | cons x l =>
   have hall:=isNum_digL v
   rw [hd] at hall
   have hx:=hall x (by simp)
   rw [List.cons_append,tokT_cons,if_pos hx, ← List.cons_append]
   unfold numT
   rw [take_part isNum (x :: l) b hall hb]
   have hval:valL (x :: l)=v:=by rw [← hd];exact valL_digL v
   rw [hval]
   have hno:¬ ((1<(x :: l).length∧(x :: l++b).head? = some 48)∨9223372036854775807<(v:Int)):=by
    rintro (⟨h1,h2⟩ | h)
    · by_cases h10:v<10
      · rw [digL_small v h10] at hd
        injection hd with _ hl;rw [← hl] at h1;simp at h1
      · have:=digL_head (v+1) v (by omega) (by omega)
        rw [hd] at this;exact this h2
    · omega
   rw [if_neg hno]
def opL (o:Nat):List Int:=[[61],[60,62],[60],[60,61],[62],[62,61],[38],[43],[45],[42],[47]].getD o []
def IsS (s:ByteArray) (t:Tk):Prop:=t.kind=5∧t.text=s
theorem IsS.sign {s:ByteArray} {t:Tk} (h:IsS s t) (u:ByteArray) (ts:List Tk):signIs u (t :: ts)=decide (s=u):=by
 unfold signIs;simp only [h.1,h.2,decide_true,Bool.true_and]
inductive LeafS:List Tk→Nd→Prop
 | num (t:Tk) (h:t.kind=1):LeafS [t] { Nd.zero with kind:=1,num:=t.num }
 | text (t:Tk) (h:t.kind=2):LeafS [t] { Nd.zero with kind:=2,text:=t.text }
 | yes (t:Tk) (h:t.kind=3) (g:t.text=⟨#[84,82,85,69]⟩):LeafS [t] { Nd.zero with kind:=3,num:=1 }
 | no (t:Tk) (h:t.kind=3) (g:t.text=⟨#[70,65,76,83,69]⟩):LeafS [t] { Nd.zero with kind:=3 }
 | dead (t:Tk) (h:t.kind=6):LeafS [t] { Nd.zero with kind:=4 }
 | ref (t:Tk) (h:t.kind=4):LeafS [t] { Nd.zero with kind:=5,ref:=t.rf }
 | range (t c u:Tk) (h:t.kind=4) (hc:IsS ⟨#[58]⟩ c) (g:u.kind=4) (hs:spanB t.rf u.rf=true):LeafS [t,c,u] { Nd.zero with kind:=6,ref:=t.rf,zto:=u.rf }
def Wr (n rk d:Nat) (ts:List Tk) (d':Nat) (ts':List Tk):Prop :=
 (n≤rk∧ts'=ts∧d'=d)∨(rk<n∧d'=d+1∧∃ l r,IsS ⟨#[40]⟩ l∧IsS ⟨#[41]⟩ r∧ts'=l :: (ts++[r]))
inductive Sh:Bool→Nat→List Nd→List Int→List Tk→Nat→Nat→Prop
 | leaf (base:Nat) (ts:List Tk) (nd:Nd) (h:LeafS ts nd):Sh false base [nd] [(base:Int)] ts 5 0
 | neg (base:Nat) (ns:List Nd) (a:Int) (ts:List Tk) (rk d:Nat) (h:Sh false base ns [a] ts rk d) (m:Tk) (hm:IsS ⟨#[45]⟩ m) (d':Nat) (ts':List Tk) (hw:Wr 4 rk d ts d' ts') :
    Sh false base (ns++[{ Nd.zero with kind:=8,kids:=[a] }]) [((base+ns.length:Nat):Int)] (m :: ts') 4 (d'+1)
 | op (base o:Nat) (ho:o<11) (ns ms:List Nd) (a b:Int) (ts us:List Tk) (rk1 rk2 d1 d2:Nat) (h:Sh false base ns [a] ts rk1 d1) (g:Sh false (base+ns.length) ms [b] us rk2 d2)
    (s:Tk) (hs:IsS (opS.getD o ⟨#[]⟩) s) (e1 e2:Nat) (ts' us':List Tk) (hw:Wr (rk o) rk1 d1 ts e1 ts') (gw:Wr (rk o+1) rk2 d2 us e2 us') :
    Sh false base (ns++(ms++[{ Nd.zero with kind:=9+(o:Int),kids:=[a,b] }])) [((base+(ns.length+ms.length):Nat):Int)] (ts'++s :: us') (rk o) (max e1 e2)
 | call (base:Nat) (ns:List Nd) (ks:List Int) (ts:List Tk) (d:Nat) (h:Sh true base ns ks ts 0 d) (t l r:Tk) (ht:t.kind=3) (h1:t.text≠⟨#[84,82,85,69]⟩) (h2:t.text≠⟨#[70,65,76,83,69]⟩) (hl:IsS ⟨#[40]⟩ l) (hr:IsS ⟨#[41]⟩ r) :
    Sh false base (ns++[{ Nd.zero with kind:=7,text:=t.text,kids:=ks }]) [((base+ns.length:Nat):Int)] (t :: l :: (ts++[r])) 5 (d+1)
 | none (base:Nat):Sh true base [] [] [] 0 0
 | one (base:Nat) (ns:List Nd) (a:Int) (ts:List Tk) (rk d:Nat) (h:Sh false base ns [a] ts rk d):Sh true base ns [a] ts 0 d
 | and (base:Nat) (ns ms:List Nd) (ks:List Int) (b:Int) (ts us:List Tk) (rk d1 d2:Nat) (h:Sh true base ns ks ts 0 d1) (hk:ks≠[]) (c:Tk) (hc:IsS ⟨#[44]⟩ c) (g:Sh false (base+ns.length) ms [b] us rk d2) :
    Sh true base (ns++ms) (ks++[b]) (ts++c :: us) 0 (max d1 d2)
def At (n deep base:Nat) (ts:List Tk) (ns:List Nd) (a:Nat) (r:List Tk):Prop :=
 if n≤4 then ∃ f,exprP f n deep base ts=some (.ok (ns,a,r)) else ∃ f,primP f deep base ts=some (.ok (ns,a,r))
def Goes (n deep base:Nat) (ts:List Tk) (ns:List Nd) (a:Nat) (r:List Tk):Prop :=
 ∃ ns1 a1 r1,At (n+1) deep base ts ns1 a1 r1∧∀ f y,rowP f n deep base ns a r=some y→∃ g,rowP g n deep base ns1 a1 r1=some y
theorem row_stop {n deep base:Nat} {ns:List Nd} {a:Nat} {r:List Tk} (h:opK n r=0):rowP 1 n deep base ns a r=some (.ok (ns,a,r)):=by
 rw [rowP_succ,if_pos h]
theorem Goes.at {n deep base:Nat} {ts:List Tk} {ns:List Nd} {a:Nat} {r:List Tk} (hn:n≤3) (h:Goes n deep base ts ns a r) (hs:Stop n r):At n deep base ts ns a r:=by
 obtain ⟨ns1,a1,r1,h1,h2⟩:=h
 obtain ⟨g,hg⟩:=h2 1 _ (row_stop (hs n (Nat.le_refl _) hn))
 unfold At at h1 ⊢
 rw [if_pos (by omega)] at h1 ⊢
 obtain ⟨f,hf⟩:=h1
 refine ⟨max f g+1, ?_⟩
 rw [exprP_succ,if_pos hn,exprP_more (Nat.le_max_left f g) hf]
 exact rowP_more (Nat.le_max_right f g) hg
theorem At.goes {n deep base:Nat} {ts:List Tk} {ns:List Nd} {a:Nat} {r:List Tk} (h:At (n+1) deep base ts ns a r):Goes n deep base ts ns a r:=⟨ns,a,r,h,fun f _ hy=>⟨f,hy⟩⟩
theorem At.four {deep base:Nat} {ts:List Tk} {ns:List Nd} {a:Nat} {r:List Tk} (h:At 5 deep base ts ns a r) (hm:signIs ⟨#[45]⟩ ts=false):At 4 deep base ts ns a r:=by
 unfold At at h ⊢
 rw [if_neg (by omega)] at h
 rw [if_pos (by omega)]
 obtain ⟨f,hf⟩:=h
 refine ⟨f+1, ?_⟩
 rw [exprP_succ,if_neg (by omega),hm,if_neg (by simp)]
 exact hf
theorem At.down {deep base:Nat} {ts:List Tk} {ns:List Nd} {a:Nat} {r:List Tk} (n:Nat):∀ (k:Nat),n+k≤5→At (n+k) deep base ts ns a r→Stop n r→(n+k=5→signIs ⟨#[45]⟩ ts=false)→At n deep base ts ns a r
 | 0,_,h,_,_=>h
 | k + 1,hk,h,hs,hm=>by
   have h1:At (n+k) deep base ts ns a r:=by
    by_cases c:n+(k+1)=5
    · rw [c] at h
      have:=h.four (hm c)
      rwa [show n+k=4 by omega]
    · exact Goes.at (by omega) (At.goes h) (fun m h1 h2=>hs m (by omega) h2)
   exact At.down n k (by omega) h1 hs (fun h=>by omega)
structure Back (base:Nat) (ns:List Nd) (a:Nat) (ts:List Tk) (rk d:Nat):Prop where
 le:rk≤5
 close:∀ rest,signIs ⟨#[41]⟩ (ts++rest)=false
 minus:rk=5→∀ rest,signIs ⟨#[45]⟩ (ts++rest)=false
 high:∀ deep rest,deep+d≤12→signIs ⟨#[58]⟩ rest=false→4≤rk→At rk deep base (ts++rest) ns a rest
 low:∀ deep rest,deep+d≤12→signIs ⟨#[58]⟩ rest=false→rk≤3→Stop (rk+1) rest→Goes rk deep base (ts++rest) ns a rest
theorem Stop.more {n m:Nat} {r:List Tk} (h:Stop n r) (hm:n≤m):Stop m r:=fun k h1 h2=>h k (by omega) h2
theorem Back.at {base:Nat} {ns:List Nd} {a:Nat} {ts:List Tk} {rk d:Nat} (h:Back base ns a ts rk d) (n deep:Nat) (rest:List Tk) (hn:n≤rk) (hd:deep+d≤12) (hc:signIs ⟨#[58]⟩ rest=false) (hs:Stop n rest) :
 At n deep base (ts++rest) ns a rest:=by
 have hle:=h.le
 have h1:At rk deep base (ts++rest) ns a rest:=by
  by_cases c:4≤rk
  · exact h.high deep rest hd hc c
  · exact Goes.at (by omega) (h.low deep rest hd hc (by omega) (hs.more (by omega))) (hs.more hn)
 refine At.down n (rk - n) (by omega) ?_ hs (fun e=>h.minus (by omega) rest)
 rwa [show n+(rk - n)=rk by omega]
theorem stop_sign {s:ByteArray} {t:Tk} (h:IsS s t) (ts:List Tk) (hs:(List.range 4).all (fun n=>(levelL n).all fun p=>decide (s≠p.1))=true) (n:Nat):Stop n (t :: ts):=by
 intro m _ hm
 unfold opK
 have hf:(levelL m).find? (fun p=>signIs p.1 (t :: ts))=none:=by
  rw [List.find?_eq_none]
  intro p hp
  rw [h.sign p.1 ts]
  have:=List.all_eq_true.1 hs m (by simp;omega)
  have:=List.all_eq_true.1 this p hp
  simpa using this
 rw [hf]
theorem Back.brk {base:Nat} {ns:List Nd} {a:Nat} {ts:List Tk} {rk d:Nat} (h:Back base ns a ts rk d) {l r:Tk} (hl:IsS ⟨#[40]⟩ l) (hr:IsS ⟨#[41]⟩ r):Back base ns a (l :: (ts++[r])) 5 (d+1):=by
 refine ⟨Nat.le_refl _,fun rest => ?_,fun _ rest => ?_,fun deep rest hd hc _ => ?_,fun deep rest _ _ h=>by omega⟩
 · rw [List.cons_append,hl.sign];decide
 · rw [List.cons_append,hl.sign];decide
 · have h1:=h.at 0 (deep+1) (r :: rest) (by omega) (by omega) (by rw [hr.sign];decide) (stop_sign hr rest (by decide) 0)
   unfold At at h1 ⊢
   rw [if_pos (by omega)] at h1
   rw [if_neg (by omega)]
   obtain ⟨f,hf⟩:=h1
   refine ⟨f+1, ?_⟩
   rw [List.cons_append,primP_cons,hl.sign,if_pos (by decide),if_neg (by omega),List.append_assoc,List.singleton_append,hf]
   show (if signIs ⟨#[41]⟩ (r :: rest)=true then _ else _)=_
   rw [hr.sign,if_pos (by decide)];rfl
theorem Back.wr {base:Nat} {ns:List Nd} {a:Nat} {ts:List Tk} {rk d n d':Nat} {ts':List Tk} (h:Back base ns a ts rk d) (hw:Wr n rk d ts d' ts') (hn:n≤5):∃ rk',n≤rk'∧Back base ns a ts' rk' d':=by
 rcases hw with ⟨h1,rfl,rfl⟩ | ⟨h1,rfl,l,r,hl,hr,rfl⟩
 · exact ⟨rk,h1,h⟩
 · exact ⟨5,hn,h.brk hl hr⟩
theorem Back.goes {base:Nat} {ns:List Nd} {a:Nat} {ts:List Tk} {rk d:Nat} (h:Back base ns a ts rk d) (n deep:Nat) (rest:List Tk) (hn:n≤rk) (hn3:n≤3) (hd:deep+d≤12) (hc:signIs ⟨#[58]⟩ rest=false) (hs:Stop (n+1) rest) :
 Goes n deep base (ts++rest) ns a rest:=by
 by_cases c:n=rk
 · subst c;exact h.low deep rest hd hc hn3 hs
 · exact (h.at (n+1) deep rest (by omega) hd hc hs).goes
theorem back_leaf {base:Nat} {ts:List Tk} {nd:Nd} (h:LeafS ts nd):Back base [nd] base ts 5 0:=by
 have key:(∀ rest,signIs ⟨#[41]⟩ (ts++rest)=false)∧(∀ rest,signIs ⟨#[45]⟩ (ts++rest)=false)∧∀ deep rest,signIs ⟨#[58]⟩ rest=false→primP 1 deep base (ts++rest)=some (.ok ([nd],base,rest)):=by
  have hs:∀ (t:Tk) (s:ByteArray) (us:List Tk),t.kind≠5→signIs s (t :: us)=false:=by
   intro t s us ht;unfold signIs;simp only [decide_eq_false ht,Bool.false_and]
  cases h with
  | num t h =>
    refine ⟨fun rest=>hs _ _ _ (by omega),fun rest=>hs _ _ _ (by omega),fun deep rest hc => ?_⟩
    rw [List.singleton_append,primP_cons,hs _ _ _ (by omega),if_neg (by simp),if_pos h]
  | text t h =>
    refine ⟨fun rest=>hs _ _ _ (by omega),fun rest=>hs _ _ _ (by omega),fun deep rest hc => ?_⟩
    rw [List.singleton_append,primP_cons,hs _ _ _ (by omega),if_neg (by simp),if_neg (by omega),if_pos h]
  | yes t h g =>
    refine ⟨fun rest=>hs _ _ _ (by omega),fun rest=>hs _ _ _ (by omega),fun deep rest hc => ?_⟩
    rw [List.singleton_append,primP_cons,hs _ _ _ (by omega),if_neg (by simp),if_neg (by omega),if_neg (by omega),if_neg (by omega),if_neg (by omega),if_pos h,if_pos g]
  | no t h g =>
    refine ⟨fun rest=>hs _ _ _ (by omega),fun rest=>hs _ _ _ (by omega),fun deep rest hc => ?_⟩
    rw [List.singleton_append,primP_cons,hs _ _ _ (by omega),if_neg (by simp),if_neg (by omega),if_neg (by omega),if_neg (by omega),if_neg (by omega),if_pos h,if_neg (by rw [g];decide),if_pos g]
  | dead t h =>
    refine ⟨fun rest=>hs _ _ _ (by omega),fun rest=>hs _ _ _ (by omega),fun deep rest hc => ?_⟩
    rw [List.singleton_append,primP_cons,hs _ _ _ (by omega),if_neg (by simp),if_neg (by omega),if_neg (by omega),if_pos h]
  | ref t h =>
    refine ⟨fun rest=>hs _ _ _ (by omega),fun rest=>hs _ _ _ (by omega),fun deep rest hc => ?_⟩
    rw [List.singleton_append,primP_cons,hs _ _ _ (by omega),if_neg (by simp),if_neg (by omega),if_neg (by omega),if_neg (by omega),if_pos h]
    unfold refP
    rw [hc,if_neg (by simp)]
  | range t c u h hc g hsp =>
    refine ⟨fun rest=>hs _ _ _ (by omega),fun rest=>hs _ _ _ (by omega),fun deep rest _ => ?_⟩
    show primP 1 deep base (t :: c :: u :: rest)=_
    rw [primP_cons,hs _ _ _ (by omega),if_neg (by simp),if_neg (by omega),if_neg (by omega),if_neg (by omega),if_pos h]
    unfold refP
    rw [hc.sign,if_pos (by decide)]
    show some (if u.kind=4∧spanB t.rf u.rf=true then _ else _)=_
    rw [if_pos ⟨g,hsp⟩]
 refine ⟨Nat.le_refl _,key.1,fun _=>key.2.1,fun deep rest _ hc _ => ?_,fun deep rest _ _ h=>by omega⟩
 unfold At;rw [if_neg (by omega)]
 exact ⟨1,key.2.2 deep rest hc⟩
theorem stop_four (r:List Tk):Stop 4 r:=fun m h1 h2=>by omega
theorem back_neg {base:Nat} {ns:List Nd} {a:Nat} {ts:List Tk} {rk d:Nat} (h:Back base ns a ts rk d) {m:Tk} (hm:IsS ⟨#[45]⟩ m) (h4:4≤rk) :
 Back base (ns++[{ Nd.zero with kind:=8,kids:=[(a:Int)] }]) (base+ns.length) (m :: ts) 4 (d+1):=by
 refine ⟨by omega,fun rest=>by rw [List.cons_append,hm.sign];decide,fun h=>by omega,fun deep rest hd hc _ => ?_,fun deep rest _ _ h=>by omega⟩
 have h1:=h.at 4 (deep+1) rest h4 (by omega) hc (stop_four _)
 unfold At at h1 ⊢
 rw [if_pos (by omega)] at h1 ⊢
 obtain ⟨f,hf⟩:=h1
 refine ⟨f+1, ?_⟩
 rw [List.cons_append,exprP_succ,if_neg (by omega),hm.sign,if_pos (by decide),if_neg (by omega),List.tail_cons,hf]
 rfl
theorem op_colon:∀ o:Nat,o<11→opS.getD o ⟨#[]⟩≠⟨#[58]⟩:=by decide +kernel
theorem stop_op {o:Nat} (ho:o<11) {s:Tk} (hs:IsS (opS.getD o ⟨#[]⟩) s) (ts:List Tk):Stop (rk o+1) (s :: ts):=by
 intro m h1 h2
 rw [opK_sign s ts o ho hs.1 hs.2 m h2,if_neg (by omega)]
theorem back_op {base o:Nat} (ho:o<11) {ns ms:List Nd} {a b:Nat} {ts us:List Tk} {rk1 rk2 d1 d2:Nat} (h:Back base ns a ts rk1 d1) (g:Back (base+ns.length) ms b us rk2 d2) {s:Tk} (hs:IsS (opS.getD o ⟨#[]⟩) s)
 (h1:rk o≤rk1) (h2:rk o+1≤rk2) :
 Back base (ns++(ms++[{ Nd.zero with kind:=9+(o:Int),kids:=[(a:Int),(b:Int)] }])) (base+(ns.length+ms.length)) (ts++s :: us) (rk o) (max d1 d2):=by
 have hr:=rk_le o
 refine ⟨by omega,fun rest=>by rw [List.append_assoc];exact h.close _,fun e=>by omega,fun deep rest _ _ e=>by omega,fun deep rest hd hc _ hst => ?_⟩
 obtain ⟨ns1,a1,r1,k1,k2⟩:=h.goes (rk o) deep (s :: (us++rest)) h1 hr (by omega) (by rw [hs.sign];exact decide_eq_false (op_colon o ho)) (stop_op ho hs _)
 have k3:=g.at (rk o+1) deep rest h2 (by omega) hc hst
 unfold At at k3
 rw [if_pos (by omega)] at k3
 obtain ⟨f,hf⟩:=k3
 refine ⟨ns1,a1,r1,by rw [List.append_assoc];exact k1,fun f' y hy => ?_⟩
 refine k2 (max f f'+1) y ?_
 rw [rowP_succ,opK_sign s _ o ho hs.1 hs.2 _ hr,if_pos rfl,if_neg (by omega),List.tail_cons,exprP_more (Nat.le_max_left f f') hf]
 exact rowP_more (Nat.le_max_right f f') hy
def BackA (base:Nat) (ns:List Nd) (ks:List Int) (ts:List Tk) (d:Nat):Prop :=
 (ks=[]∧ns=[]∧ts=[]∧d=0)∨(ks≠[]∧(∀ rest,signIs ⟨#[41]⟩ (ts++rest)=false)∧∀ deep rest,deep+d≤12→signIs ⟨#[58]⟩ rest=false→Stop 0 rest →
   ∀ f y,(if signIs ⟨#[44]⟩ rest=true then argsP f deep base ns ks rest.tail else some (.ok (ns,ks,rest)))=some y→∃ g,argsP g deep base [] [] (ts++rest)=some y)
theorem back_one {base:Nat} {ns:List Nd} {a:Nat} {ts:List Tk} {rk d:Nat} (h:Back base ns a ts rk d):BackA base ns [(a:Int)] ts d:=by
 refine .inr ⟨by simp,h.close,fun deep rest hd hc hs f y hy => ?_⟩
 have h1:=h.at 0 deep rest (by omega) hd hc hs
 unfold At at h1
 rw [if_pos (by omega)] at h1
 obtain ⟨g,hg⟩:=h1
 refine ⟨max f g+1, ?_⟩
 rw [argsP_succ,List.length_nil,Nat.add_zero,exprP_more (Nat.le_max_right f g) hg]
 show (if signIs ⟨#[44]⟩ rest=true then argsP (max f g) deep base ns [(a:Int)] rest.tail else some (.ok (ns,[(a:Int)],rest)))=some y
 by_cases c:signIs ⟨#[44]⟩ rest=true
 · rw [if_pos c] at hy ⊢;exact argsP_more (Nat.le_max_left f g) hy
 · rw [if_neg c] at hy ⊢;exact hy
theorem back_and {base:Nat} {ns ms:List Nd} {ks:List Int} {b:Nat} {ts us:List Tk} {rk d1 d2:Nat} (h:BackA base ns ks ts d1) (hk:ks≠[]) {c:Tk} (hc:IsS ⟨#[44]⟩ c) (g:Back (base+ns.length) ms b us rk d2) :
 BackA base (ns++ms) (ks++[(b:Int)]) (ts++c :: us) (max d1 d2):=by
 rcases h with ⟨h,_⟩ | ⟨_,h1,h2⟩
 · exact absurd h hk
 · refine .inr ⟨by simp,fun rest=>by rw [List.append_assoc];exact h1 _,fun deep rest hd hcol hs f y hy => ?_⟩
   have k1:=g.at 0 deep rest (by omega) (by omega) hcol hs
   unfold At at k1
   rw [if_pos (by omega)] at k1
   obtain ⟨g',hg⟩:=k1
   obtain ⟨q,hq⟩:=h2 deep (c :: (us++rest)) (by omega) (by rw [hc.sign];decide) (stop_sign hc _ (by decide) 0) (max f g'+1) y (by
    rw [hc.sign,if_pos (by decide),List.tail_cons,argsP_succ,exprP_more (Nat.le_max_right f g') hg]
    show (if signIs ⟨#[44]⟩ rest=true then argsP (max f g') deep base (ns++ms) (ks++[(b:Int)]) rest.tail else some (.ok (ns++ms,ks++[(b:Int)],rest)))=some y
    by_cases e:signIs ⟨#[44]⟩ rest=true
    · rw [if_pos e] at hy ⊢;exact argsP_more (Nat.le_max_left f g') hy
    · rw [if_neg e] at hy ⊢;exact hy)
   exact ⟨q,by rw [List.append_assoc];exact hq⟩
theorem back_call {base:Nat} {ns:List Nd} {ks:List Int} {ts:List Tk} {d:Nat} (h:BackA base ns ks ts d) {t l r:Tk} (ht:t.kind=3) (h1:t.text≠⟨#[84,82,85,69]⟩) (h2:t.text≠⟨#[70,65,76,83,69]⟩) (hl:IsS ⟨#[40]⟩ l) (hr:IsS ⟨#[41]⟩ r) :
 Back base (ns++[{ Nd.zero with kind:=7,text:=t.text,kids:=ks }]) (base+ns.length) (t :: l :: (ts++[r])) 5 (d+1):=by
 have hs:∀ (s:ByteArray) (us:List Tk),signIs s (t :: us)=false:=by
  intro s us;unfold signIs;simp only [ht];rfl
 refine ⟨Nat.le_refl _,fun rest=>hs _ _,fun _ rest=>hs _ _,fun deep rest hd hc _ => ?_,fun deep rest _ _ h=>by omega⟩
 have key:∃ f,(if signIs ⟨#[41]⟩ (ts++r :: rest)=true then some (.ok ([],[],ts++r :: rest)) else argsP f (deep+1) base [] [] (ts++r :: rest))=some (.ok (ns,ks,r :: rest)):=by
  rcases h with ⟨rfl,rfl,rfl,_⟩ | ⟨_,g1,g2⟩
  · refine ⟨0, ?_⟩
    rw [List.nil_append,hr.sign,if_pos (by decide)]
  · obtain ⟨f,hf⟩:=g2 (deep+1) (r :: rest) (by omega) (by rw [hr.sign];decide) (stop_sign hr rest (by decide) 0) 0 (.ok (ns,ks,r :: rest)) (by rw [hr.sign,if_neg (by decide)])
    refine ⟨f, ?_⟩
    rw [g1,if_neg (by simp)];exact hf
 obtain ⟨f,hf⟩:=key
 unfold At;rw [if_neg (by omega)]
 refine ⟨f+1, ?_⟩
 rw [List.cons_append,List.cons_append,List.append_assoc,List.singleton_append,primP_cons,hs,if_neg (by simp),if_neg (by omega),if_neg (by omega),if_neg (by omega),if_neg (by omega),if_pos ht,if_neg h1,if_neg h2,hl.sign,if_pos (by decide),if_neg (by omega),List.tail_cons,hf]
 show (if signIs ⟨#[41]⟩ (r :: rest)=true then _ else _)=_
 rw [hr.sign,if_pos (by decide)];rfl
theorem sh_back {b:Bool} {base:Nat} {ns:List Nd} {ks:List Int} {ts:List Tk} {rk d:Nat} (h:Sh b base ns ks ts rk d) :
 (b=false→∃ a:Nat,ks=[(a:Int)]∧Back base ns a ts rk d)∧(b=true→BackA base ns ks ts d):=by
 induction h with
 | leaf base ts nd h=>exact ⟨fun _=>⟨base,rfl,back_leaf h⟩,fun h=>by cases h⟩
 | neg base ns a ts rk d h m hm d' ts' hw ih =>
   refine ⟨fun _ => ?_,fun h=>by cases h⟩
   obtain ⟨a',e,hb⟩:=ih.1 rfl
   obtain rfl:a=(a':Int):=by simpa using e
   obtain ⟨rk',h1,hb'⟩:=hb.wr hw (by omega)
   exact ⟨_,rfl,back_neg hb' hm h1⟩
 | op base o ho ns ms a b ts us rk1 rk2 d1 d2 h g s hs e1 e2 ts' us' hw gw ih ig =>
   refine ⟨fun _ => ?_,fun h=>by cases h⟩
   have hr:=rk_le o
   obtain ⟨a',e,hb⟩:=ih.1 rfl
   obtain rfl:a=(a':Int):=by simpa using e
   obtain ⟨b',e',gb⟩:=ig.1 rfl
   obtain rfl:b=(b':Int):=by simpa using e'
   obtain ⟨r1,h1,hb'⟩:=hb.wr hw (by omega)
   obtain ⟨r2,h2,gb'⟩:=gb.wr gw (by omega)
   exact ⟨_,rfl,back_op ho hb' gb' hs h1 h2⟩
 | call base ns ks ts d h t l r ht h1 h2 hl hr ih=>exact ⟨fun _=>⟨_,rfl,back_call (ih.2 rfl) ht h1 h2 hl hr⟩,fun h=>by cases h⟩
 | none base=>exact ⟨fun h=>(by cases h),fun _ => .inl ⟨rfl,rfl,rfl,rfl⟩⟩
 | one base ns a ts rk d h ih =>
   refine ⟨fun h=>(by cases h),fun _ => ?_⟩
   obtain ⟨a',e,hb⟩:=ih.1 rfl
   obtain rfl:a=(a':Int):=by simpa using e
   exact back_one hb
 | and base ns ms ks b ts us rk d1 d2 h hk c hc g ih ig =>
   refine ⟨fun h=>(by cases h),fun _ => ?_⟩
   obtain ⟨b',e,gb⟩:=ig.1 rfl
   obtain rfl:b=(b':Int):=by simpa using e
   exact back_and (ih.2 rfl) hk hc gb
theorem sh_parse {ns:List Nd} {a:Int} {ts:List Tk} {rk d:Nat} (h:Sh false 0 ns [a] ts rk d) (hd:d≤12) (e:Tk) (he:e.kind=0):∃ f,parseP f (ts++[e])=some (.ok ns):=by
 obtain ⟨a',_,hb⟩:=(sh_back h).1 rfl
 have hsg:∀ s:ByteArray,signIs s [e]=false:=by intro s;unfold signIs;simp only [he];rfl
 have h1:=hb.at 0 0 [e] (by omega) (by omega) (hsg _) (by
  intro m _ _
  unfold opK
  have hf:(levelL m).find? (fun p=>signIs p.1 [e])=none:=by
   rw [List.find?_eq_none];intro p _;rw [hsg];simp
  rw [hf])
 unfold At at h1
 rw [if_pos (by omega)] at h1
 obtain ⟨f,hf⟩:=h1
 refine ⟨f, ?_⟩
 unfold parseP
 rw [hf]
 show (if kindAt [e]=0 then _ else _)=_
 rw [if_pos (show kindAt [e]=0 from he)]
theorem signIs_of {s:ByteArray} {ts:List Tk} (h:signIs s ts=true):∃ t,ts=t :: ts.tail∧IsS s t:=by
 cases ts with
 | nil=>simp [signIs] at h
 | cons t ts =>
   unfold signIs at h
   rw [Bool.and_eq_true,decide_eq_true_iff,decide_eq_true_iff] at h
   exact ⟨t,rfl,h⟩
theorem opK_of {n:Nat} {ts:List Tk} (hn:n≤3) (h:opK n ts≠0):∃ o t,o<11∧rk o=n∧ts=t :: ts.tail∧IsS (opS.getD o ⟨#[]⟩) t∧opK n ts=9+(o:Int):=by
 obtain ⟨p,h1,h2,h3⟩:=opK_pos h
 obtain ⟨t,e,ht⟩:=signIs_of h2
 have key:∀ n:Nat,n<4→(levelL n).all (fun p=>(List.range 11).any fun o=>decide (rk o=n)&&(decide (p.1=opS.getD o ⟨#[]⟩)&&decide (p.2=9+(o:Int))))=true:=by decide +kernel
 have:=List.all_eq_true.1 (key n (by omega)) p h1
 rw [List.any_eq_true] at this
 obtain ⟨o,ho,hq⟩:=this
 rw [Bool.and_eq_true,Bool.and_eq_true,decide_eq_true_iff,decide_eq_true_iff,decide_eq_true_iff] at hq
 refine ⟨o,t,by simpa using ho,hq.1,e, ?_,by rw [h3,hq.2.2]⟩
 rw [← hq.2.1];exact ht
def Has (n deep base:Nat) (ns:List Nd) (a:Nat) (pre:List Tk):Prop :=
 ∃ ts rk d ts' d',Sh false base ns [(a:Int)] ts rk d∧Wr n rk d ts d' ts'∧ts'.Sublist pre∧deep+d'≤12
theorem Has.less {n deep base:Nat} {ns:List Nd} {a:Nat} {pre:List Tk} (h:Has (n+1) deep base ns a pre):Has n deep base ns a pre:=by
 obtain ⟨ts,rk,d,ts',d',h1,h2,h3,h4⟩:=h
 rcases h2 with ⟨g1,rfl,rfl⟩ | ⟨g1,rfl,l,r,hl,hr,rfl⟩
 · exact ⟨_,_,_,_,_,h1,.inl ⟨by omega,rfl,rfl⟩,h3,h4⟩
 · by_cases c:n≤rk
   · refine ⟨_,_,_,_,_,h1,.inl ⟨c,rfl,rfl⟩, ?_,by omega⟩
     exact ((List.sublist_append_left ts [r]).trans (List.sublist_cons_self l _)).trans h3
   · exact ⟨_,_,_,_,_,h1,.inr ⟨by omega,rfl,l,r,hl,hr,rfl⟩,h3,h4⟩
def HasA (deep base:Nat) (ns:List Nd) (ks:List Int) (pre:List Tk):Prop :=
 (ks=[]∧ns=[])∨(ks≠[]∧∃ ts d c,Sh true base ns ks ts 0 d∧IsS ⟨#[44]⟩ c∧(ts++[c]).Sublist pre∧deep+d≤12)
theorem has_leaf {deep base:Nat} {ts pre:List Tk} {nd:Nd} (h:LeafS ts nd) (hp:ts.Sublist pre) (hd:deep≤12):Has 5 deep base [nd] base pre :=
 ⟨_,_,_,_,_,.leaf base ts nd h,.inl ⟨Nat.le_refl _,rfl,rfl⟩,hp,by omega⟩
theorem has_all : ∀ f : Nat, (∀ n deep base ts ns a r, exprP f n deep base ts=some (.ok (ns,a,r))→n≤4→deep≤12→∃ pre,ts=pre++r∧Has n deep base ns a pre) ∧
 (∀ n deep base ns a ts ns' a' r pre0,rowP f n deep base ns a ts=some (.ok (ns',a',r))→n≤3→deep≤12→Has n deep base ns a pre0→∃ pre,ts=pre++r∧Has n deep base ns' a' (pre0++pre)) ∧
 (∀ deep base ts ns a r,primP f deep base ts=some (.ok (ns,a,r))→deep≤12→∃ pre,ts=pre++r∧Has 5 deep base ns a pre) ∧
 (∀ deep base ns ks ts ns' ks' r pre0,argsP f deep base ns ks ts=some (.ok (ns',ks',r))→deep≤12→HasA deep base ns ks pre0 →
   ∃ pre us d,ts=pre++r∧Sh true base ns' ks' us 0 d∧us.Sublist (pre0++pre)∧deep+d≤12)
 | 0=>by
   refine ⟨?_, ?_, ?_, ?_⟩
   · intro n deep base ts ns a r h;unfold exprP at h;cases h
   · intro n deep base ns a ts ns' a' r pre0 h;unfold rowP at h;cases h
   · intro deep base ts ns a r h;unfold primP at h;cases h
   · intro deep base ns ks ts ns' ks' r pre0 h;unfold argsP at h;cases h
 | f + 1 => by
   obtain ⟨i1,i2,i3,i4⟩:=has_all f
   refine ⟨?_, ?_, ?_, ?_⟩
   · intro n deep base ts ns a r h hn hd
     rw [exprP_succ] at h
     by_cases c:n≤3
     · rw [if_pos c] at h
       rcases bindR_some h with ⟨e,_,h2⟩ | ⟨ms,b,s,h1,h2⟩
       · cases h2
       · obtain ⟨p1,e1,k1⟩:=i1 _ _ _ _ _ _ _ h1 (by omega) hd
         obtain ⟨p2,e2,k2⟩:=i2 _ _ _ _ _ _ _ _ _ p1 h2 c hd k1.less
         exact ⟨p1++p2,by rw [e1,e2,List.append_assoc],k2⟩
     · rw [if_neg c] at h
       have hn4:n=4:=by omega
       subst hn4
       by_cases d:signIs ⟨#[45]⟩ ts=true
       · rw [if_pos d] at h
         by_cases d2:12≤deep
         · rw [if_pos d2] at h;cases h
         · rw [if_neg d2] at h
           obtain ⟨t,et,ht⟩:=signIs_of d
           rcases bindR_some h with ⟨e,_,h2⟩ | ⟨ms,b,s,h1,h2⟩
           · cases h2
           · obtain ⟨p1,e1,us,rk',d',us',e',g1,g2,g3,g4⟩:=i1 _ _ _ _ _ _ _ h1 (by omega) (by omega)
             injection h2 with h2;injection h2 with h2;injection h2 with h3 h4;injection h4 with h4 h5
             subst h3;subst h4;subst h5
             refine ⟨t :: p1,by rw [et,e1];rfl,_,_,_,_,_,.neg base ms _ us rk' d' g1 t ht e' us' g2,.inl ⟨Nat.le_refl _,rfl,rfl⟩,g3.cons_cons t,by omega⟩
       · rw [if_neg d] at h
         obtain ⟨p,e,k⟩:=i3 _ _ _ _ _ _ h hd
         exact ⟨p,e,Has.less (n:=4) k⟩
   · intro n deep base ns a ts ns' a' r pre0 h hn hd hh
     rw [rowP_succ] at h
     by_cases c:opK n ts=0
     · rw [if_pos c] at h
       injection h with h;injection h with h;injection h with h1 h2;injection h2 with h2 h3
       subst h1;subst h2;subst h3
       exact ⟨[],rfl,by rw [List.append_nil];exact hh⟩
     · rw [if_neg c] at h
       obtain ⟨o,t,ho,hrk,et,ht,ek⟩:=opK_of hn c
       rcases bindR_some h with ⟨e,_,h2⟩ | ⟨ms,b,s,h1,h2⟩
       · cases h2
       · obtain ⟨p1,e1,us,rk2,d2,us',e2,g1,g2,g3,g4⟩:=i1 _ _ _ _ _ _ _ h1 (by omega) hd
         obtain ⟨ls,rk1,d1,ls',l2,k1,k2,k3,k4⟩:=hh
         subst hrk
         have hnew:Has (rk o) deep base (ns++(ms++[{ Nd.zero with kind:=9+(o:Int),kids:=[(a:Int),(b:Int)] }])) (base+(ns.length+ms.length)) (pre0++t :: p1) :=
          ⟨_,_,_,_,_,.op base o ho ns ms _ _ ls us rk1 rk2 d1 d2 k1 g1 t ht l2 e2 ls' us' k2 g2,.inl ⟨Nat.le_refl _,rfl,rfl⟩,k3.append (g3.cons_cons t),by omega⟩
         rw [ek] at h2
         obtain ⟨p2,e3,k5⟩:=i2 _ _ _ _ _ _ _ _ _ _ h2 hn hd hnew
         refine ⟨t :: (p1++p2),by rw [et,e1,e3];simp, ?_⟩
         have:pre0++t :: (p1++p2)=pre0++t :: p1++p2:=by simp
         rw [this];exact k5
   · intro deep base ts ns a r h hd
     cases ts with
     | nil=>rw [primP_nil] at h;injection h with h;cases h
     | cons t ts =>
       rw [primP_cons] at h
       by_cases c1:signIs ⟨#[40]⟩ (t :: ts)=true
       · rw [if_pos c1] at h
         obtain ⟨t',et,ht⟩:=signIs_of c1
         injection et with et _
         subst et
         by_cases d:12≤deep
         · rw [if_pos d] at h;cases h
         · rw [if_neg d] at h
           rcases bindR_some h with ⟨e,_,h2⟩ | ⟨ms,b,s,h1,h2⟩
           · cases h2
           · by_cases c2 : signIs ⟨#[41]⟩ s = true
             · rw [if_pos c2] at h2
               injection h2 with h2;injection h2 with h2;injection h2 with h3 h4;injection h4 with h4 h5
               subst h3;subst h4;subst h5
               obtain ⟨u,eu,hu⟩:=signIs_of c2
               obtain ⟨p1,e1,us,rk',d',us',e',g1,g2,g3,g4⟩:=i1 _ _ _ _ _ _ _ h1 (by omega) (by omega)
               rcases g2 with ⟨_,rfl,rfl⟩ | ⟨g2,_⟩
               · refine ⟨t :: (p1 ++ [u]), by rw [e1];conv=>lhs;rw [eu]
                                              simp, ?_⟩
                 by_cases c3:5≤rk'
                 · refine ⟨_,_,_,_,_,g1,.inl ⟨c3,rfl,rfl⟩, ?_,by omega⟩
                   exact (g3.trans (List.sublist_append_left _ _)).trans (List.sublist_cons_self _ _)
                 · exact ⟨_,_,_,_,_,g1,.inr ⟨by omega,rfl,t,u,ht,hu,rfl⟩,(g3.append (List.Sublist.refl [u])).cons_cons t,by omega⟩
               · omega
             · rw [if_neg c2] at h2;injection h2 with h2;cases h2
       · rw [if_neg c1] at h
         by_cases c2:t.kind=1
         · rw [if_pos c2] at h
           injection h with h;injection h with h;injection h with h1 h2;injection h2 with h2 h3
           subst h1;subst h2;subst h3
           exact ⟨[t],rfl,has_leaf (.num t c2) (List.Sublist.refl _) hd⟩
         · rw [if_neg c2] at h
           by_cases c3:t.kind=2
           · rw [if_pos c3] at h
             injection h with h;injection h with h;injection h with h1 h2;injection h2 with h2 h3
             subst h1;subst h2;subst h3
             exact ⟨[t],rfl,has_leaf (.text t c3) (List.Sublist.refl _) hd⟩
           · rw [if_neg c3] at h
             by_cases c4:t.kind=6
             · rw [if_pos c4] at h
               injection h with h;injection h with h;injection h with h1 h2;injection h2 with h2 h3
               subst h1;subst h2;subst h3
               exact ⟨[t],rfl,has_leaf (.dead t c4) (List.Sublist.refl _) hd⟩
             · rw [if_neg c4] at h
               by_cases c5:t.kind=4
               · rw [if_pos c5] at h
                 injection h with h
                 unfold refP at h
                 by_cases c6:signIs ⟨#[58]⟩ ts=true
                 · rw [if_pos c6] at h
                   obtain ⟨q,eq,hq⟩:=signIs_of c6
                   cases hu:ts.tail with
                   | nil=>rw [hu] at h;cases h
                   | cons u us =>
                     rw [hu] at h
                     simp only at h
                     by_cases c7:u.kind=4∧spanB t.rf u.rf=true
                     · rw [if_pos c7] at h
                       injection h with h;injection h with h1 h2;injection h2 with h2 h3
                       subst h1;subst h2;subst h3
                       refine ⟨[t,q,u],by rw [eq,hu];rfl,has_leaf (.range t q u c5 hq c7.1 c7.2) (List.Sublist.refl _) hd⟩
                     · rw [if_neg c7] at h;cases h
                 · rw [if_neg c6] at h
                   injection h with h;injection h with h1 h2;injection h2 with h2 h3
                   subst h1;subst h2;subst h3
                   exact ⟨[t],rfl,has_leaf (.ref t c5) (List.Sublist.refl _) hd⟩
               · rw [if_neg c5] at h
                 by_cases c6:t.kind=3
                 · rw [if_pos c6] at h
                   by_cases c7:t.text=⟨#[84,82,85,69]⟩
                   · rw [if_pos c7] at h
                     injection h with h;injection h with h;injection h with h1 h2;injection h2 with h2 h3
                     subst h1;subst h2;subst h3
                     exact ⟨[t],rfl,has_leaf (.yes t c6 c7) (List.Sublist.refl _) hd⟩
                   · rw [if_neg c7] at h
                     by_cases c8:t.text=⟨#[70,65,76,83,69]⟩
                     · rw [if_pos c8] at h
                       injection h with h;injection h with h;injection h with h1 h2;injection h2 with h2 h3
                       subst h1;subst h2;subst h3
                       exact ⟨[t],rfl,has_leaf (.no t c6 c8) (List.Sublist.refl _) hd⟩
                     · rw [if_neg c8] at h
                       by_cases c9:signIs ⟨#[40]⟩ ts=true
                       · rw [if_pos c9] at h
                         obtain ⟨l,el,hl⟩:=signIs_of c9
                         by_cases d:12≤deep
                         · rw [if_pos d] at h;cases h
                         · rw [if_neg d] at h
                           rcases bindR_some h with ⟨e,_,h2⟩ | ⟨ms,ks,s,h1,h2⟩
                           · cases h2
                           · by_cases c10 : signIs ⟨#[41]⟩ s = true
                             · rw [if_pos c10] at h2
                               injection h2 with h2;injection h2 with h2;injection h2 with h3 h4;injection h4 with h4 h5
                               subst h3;subst h4;subst h5
                               obtain ⟨u,eu,hu⟩:=signIs_of c10
                               have key:∃ p us d,ts.tail=p++s∧Sh true base ms ks us 0 d∧us.Sublist p∧deep+1+d≤12:=by
                                by_cases c11:signIs ⟨#[41]⟩ ts.tail=true
                                · rw [if_pos c11] at h1
                                  injection h1 with h1;injection h1 with h1;injection h1 with h3 h4;injection h4 with h4 h5
                                  subst h3;subst h4;subst h5
                                  exact ⟨[],[],0,rfl,.none base,List.Sublist.refl _,by omega⟩
                                · rw [if_neg c11] at h1
                                  obtain ⟨p,us,d',g1,g2,g3,g4⟩:=i4 _ _ _ _ _ _ _ _ [] h1 (by omega) (.inl ⟨rfl,rfl⟩)
                                  exact ⟨p,us,d',g1,g2,by simpa using g3,g4⟩
                               obtain ⟨p,us,d',g1,g2,g3,g4⟩:=key
                               refine ⟨t :: l :: (p ++ [u]), by rw [el,g1];conv=>lhs;rw [eu]
                                                                simp, ?_⟩
                               exact ⟨_,_,_,_,_,.call base ms ks us d' g2 t l u c6 c7 c8 hl hu,.inl ⟨Nat.le_refl _,rfl,rfl⟩,((g3.append (List.Sublist.refl [u])).cons_cons l).cons_cons t,by omega⟩
                             · rw [if_neg c10] at h2;injection h2 with h2;cases h2
                       · rw [if_neg c9] at h;injection h with h;cases h
                 · rw [if_neg c6] at h;injection h with h;cases h
   · intro deep base ns ks ts ns' ks' r pre0 h hd hh
     rw [argsP_succ] at h
     rcases bindR_some h with ⟨e,_,h2⟩ | ⟨ms,b,s,h1,h2⟩
     · cases h2
     · obtain ⟨p1, e1, us, rk', d', us', e', g1,g2,g3,g4⟩:=i1 _ _ _ _ _ _ _ h1 (by omega) hd
       rcases g2 with ⟨_,rfl,rfl⟩ | ⟨g2,_⟩
       · have key : ∃ ts d, Sh true base (ns ++ ms) (ks++[(b:Int)]) ts 0 d∧ts.Sublist (pre0++p1)∧deep+d≤12:=by
          rcases hh with ⟨rfl,rfl⟩ | ⟨hk,us0,d0,q,k1,k2,k3,k4⟩
          · exact ⟨_,_,.one base ms _ _ _ _ (by simpa using g1),g3.trans (List.sublist_append_right _ _),g4⟩
          · refine ⟨_,_,.and base ns ms ks _ us0 _ _ d0 _ k1 hk q k2 g1, ?_,by omega⟩
            have:=k3.append g3
            simpa using this
         obtain ⟨ts1,d1,j1,j2,j3⟩:=key
         by_cases c:signIs ⟨#[44]⟩ s=true
         · rw [if_pos c] at h2
           obtain ⟨q,eq,hq⟩:=signIs_of c
           obtain ⟨p2,us2,d2,m1,m2,m3,m4⟩:=i4 _ _ _ _ _ _ _ _ (pre0++p1++[q]) h2 hd (.inr ⟨by simp,ts1,d1,q,j1,hq,j2.append (List.Sublist.refl _),j3⟩)
           refine ⟨p1 ++ q :: p2, us2, d2, by rw [e1];conv=>lhs;rw [eq,m1]
                                              simp,m2,by simpa using m3,m4⟩
         · rw [if_neg c] at h2
           injection h2 with h2;injection h2 with h2;injection h2 with h3 h4;injection h4 with h4 h5
           subst h3;subst h4;subst h5
           exact ⟨p1,ts1,d1,e1,j1,j2,j3⟩
       · omega
def txK (t:Tk):List Int :=
 if t.kind=1 then digL t.num.toNat
 else if t.kind=2 then 34 :: (dblL (sb t.text)++[34])
 else if t.kind=4 then textL (sb t.sh) t.c t.r t.ac t.ar
 else if t.kind=6 then [35,82,69,70,33]
 else sb t.text
theorem take_span (p:Int→Bool) (l:List Int):l.take (l.takeWhile p).length=l.takeWhile p:=(List.prefix_iff_eq_take.1 (List.takeWhile_prefix p)).symm
theorem quoF_text:∀ (n:Nat) (l t:List Int) (k:Nat),l.length≤n→quoF l=some (t,k)→l.take k=dblL t++[34]
 | _,[],_,_,_,h=>by simp [quoF] at h
 | 0,_ :: _,_,_,hn,_=>by simp at hn
 | n + 1, x :: l,t,k,hn,h=>by
   rw [quoF_cons] at h
   by_cases h1:x<32
   · rw [if_pos h1] at h;cases h
   · rw [if_neg h1] at h
     by_cases h2:x≠34
     · rw [if_pos h2] at h
       cases hq:quoF l with
       | none=>rw [hq] at h;cases h
       | some q =>
         rw [hq] at h
         simp only [Option.map_some,Option.some.injEq,Prod.mk.injEq] at h
         have g:=quoF_text n l q.1 q.2 (by simp at hn;omega) hq
         rw [← h.1, ← h.2,List.take_succ_cons,g]
         have e:dblL (x :: q.1)=x :: dblL q.1:=by unfold dblL;rw [if_neg h2];cases q.1 <;> rfl
         rw [e];rfl
     · rw [if_neg h2] at h
       have hx:x=34:=by omega
       cases l with
       | nil=>simp only [Option.some.injEq,Prod.mk.injEq] at h;rw [← h.1, ← h.2,hx];rfl
       | cons y m =>
         by_cases hy:y=34
         · simp only [hy,if_true] at h
           cases hq:quoF m with
           | none=>rw [hq] at h;cases h
           | some q =>
             rw [hq] at h
             simp only [Option.map_some,Option.some.injEq,Prod.mk.injEq] at h
             have g:=quoF_text n m q.1 q.2 (by simp at hn;omega) hq
             rw [← h.1, ← h.2,List.take_succ_cons,List.take_succ_cons,g,hx,hy]
             rfl
         · simp only [hy,if_false,Option.some.injEq,Prod.mk.injEq] at h
           rw [← h.1, ← h.2,hx];rfl
theorem tok_text (l:List Int) (t:Tk) (n:Nat) (hb:Bytes l) (h:tokT l=some (t,n)):l.take n=txK t∧t.goto 0=t:=by
 cases l with
 | nil=>simp [tokT] at h
 | cons x l =>
   rw [tokT_cons] at h
   by_cases h1:isNum x=true
   · rw [if_pos h1] at h
     unfold numT at h
     split at h
     · cases h
     · rename_i hn
       simp only [Option.some.injEq,Prod.mk.injEq] at h
       rw [← h.1, ← h.2,take_span]
       refine ⟨?_,rfl⟩
       have hall:=take_all isNum (x :: l)
       have hpos:=take_pos isNum x l h1
       have hcons:(x :: l).takeWhile isNum=x :: l.takeWhile isNum:=by rw [List.takeWhile_cons,if_pos h1]
       show (x :: l).takeWhile isNum=digL (valL ((x :: l).takeWhile isNum)).toNat
       by_cases c:x=48
       · subst c
         have hl:((48 :: l).takeWhile isNum).length=1:=by
          apply Decidable.byContradiction
          intro hc
          exact hn (.inl ⟨by omega,rfl⟩)
         have:l.takeWhile isNum=[]:=by
          rw [hcons,List.length_cons] at hl
          exact List.eq_nil_of_length_eq_zero (by omega)
         rw [hcons,this]
         show [48]=digL 0
         rw [digL_small 0 (by omega)];rfl
       · exact (digL_valL _ _ rfl (by rw [hcons];simp) hall (by rw [hcons];simpa using c)).2.symm
   · rw [if_neg h1] at h
     by_cases h2:x=34
     · rw [if_pos h2] at h
       unfold quoT at h
       cases hq:quoF l with
       | none=>rw [hq] at h;cases h
       | some q =>
         rw [hq] at h
         simp only [Option.map_some,Option.some.injEq,Prod.mk.injEq] at h
         obtain ⟨g1,g2⟩:=quoF_good _ l q.1 q.2 (Nat.le_refl _) (fun y hy=>hb y (by simp [hy])) hq
         rw [← h.1, ← h.2,List.take_succ_cons,quoF_text _ l q.1 q.2 (Nat.le_refl _) hq,h2]
         refine ⟨?_,rfl⟩
         show _=34 :: (dblL (sb (strOfNums q.1))++[34])
         rw [sb_str _ g1]
     · rw [if_neg h2] at h
       by_cases h3:x=35
       · rw [if_pos h3] at h
         unfold deadT at h
         split at h
         · rename_i h5
           simp only [Option.some.injEq,Prod.mk.injEq] at h
           rw [← h.1, ← h.2,h5]
           exact ⟨rfl,rfl⟩
         · cases h
       · rw [if_neg h3] at h
         by_cases h4:isLet x=true∨x=36
         · rw [if_pos h4] at h
           unfold wordT at h
           cases hq:readS (strOfNums ((x :: l).takeWhile isWord)) with
           | some d =>
             rw [hq] at h
             simp only [Option.some.injEq,Prod.mk.injEq] at h
             rw [← h.1, ← h.2,take_span]
             refine ⟨?_,rfl⟩
             have e:=(read_some _ d hq).2.2
             rw [sb_str _ (hb.span isWord)] at e
             exact e.symm
           | none =>
             rw [hq] at h
             simp only at h
             by_cases hc:calledL ((x :: l).takeWhile isWord)=true
             · rw [if_pos hc] at h
               simp only [Option.some.injEq,Prod.mk.injEq] at h
               rw [← h.1, ← h.2,take_span]
               exact ⟨(sb_str _ (hb.span isWord)).symm,rfl⟩
             · rw [if_neg hc] at h;cases h
         · rw [if_neg h4] at h
           unfold signT at h
           split at h
           · cases h
           · simp only [Option.some.injEq,Prod.mk.injEq] at h
             rw [← h.1, ← h.2]
             exact ⟨(sb_str _ (fun y hy=>hb y (List.mem_of_mem_take hy))).symm,rfl⟩
def Tok (t:Tk):Prop:=t.kind≠0∧tokT (txK t++[32])=some (t.goto 0,(txK t).length)∧Bytes (txK t)
theorem tok_tok (l:List Int) (t:Tk) (n p:Nat) (hb:Bytes l) (h:tokT l=some (t,n)):Tok (t.goto p)∧(txK (t.goto p)).length=n:=by
 obtain ⟨h1,h2⟩:=tok_text l t n hb h
 have hn:=(tokT_le _ _ _ h).2
 have e:txK (t.goto p)=txK t:=rfl
 have hl:(txK t).length=n:=by rw [← h1,List.length_take];omega
 refine ⟨⟨(tokT_good l t n p hb h).2, ?_,by rw [e, ← h1];exact fun y hy=>hb y (List.mem_of_mem_take hy)⟩,by rw [e];exact hl⟩
 have h3:tokT (txK t++l.drop n)=some (t,(txK t).length):=by rw [← h1,List.take_append_drop,h,h1,hl]
 have h4:=tokT_alike (b':=[32]) (.inr rfl) h3
 rw [e,h4]
 show some (t,_)=some (t.goto 0,_)
 rw [h2]
def lenK:List Tk→Nat
 | []=>0
 | t :: ts=>(txK t).length+lenK ts
theorem lenK_cons (t:Tk) (ts:List Tk):lenK (t :: ts)=(txK t).length+lenK ts:=rfl
theorem lenK_sub {a b:List Tk} (h:a.Sublist b):lenK a≤lenK b:=by
 induction h with
 | slnil=>exact Nat.le_refl _
 | cons t _ ih=>rw [lenK_cons];omega
 | cons_cons t _ ih=>rw [lenK_cons,lenK_cons];omega
theorem lexF_tok:∀ (f p:Nat) (l:List Int) (ts:List Tk),Bytes l→lexF f p l=some ts→∃ body e,ts=body++[e]∧e.kind=0∧(∀ t∈body,Tok t)∧lenK body≤l.length
 | f,p,[],ts,_,h=>by
   have h0:lexF f p []=some [Tk.zero.goto p]:=by unfold lexF;rfl
   rw [h0] at h;injection h with h;subst h
   exact ⟨[],_,rfl,rfl,by simp,Nat.le_refl _⟩
 | 0,_,_ :: _,_,_,h=>by unfold lexF at h;cases h
 | f + 1, p,x :: l,ts,hb,h=>by
   have hbl:Bytes l:=fun y hy=>hb y (by simp [hy])
   rw [lexF_cons] at h
   by_cases hx:x=32
   · rw [if_pos hx] at h
     obtain ⟨body,e,h1,h2,h3,h4⟩:=lexF_tok f (p+1) l ts hbl h
     exact ⟨body,e,h1,h2,h3,by simp only [List.length_cons];omega⟩
   · rw [if_neg hx] at h
     cases hq:tokT (x :: l) with
     | none=>rw [hq] at h;cases h
     | some q =>
       obtain ⟨t0,n⟩:=q
       have hn:=tokT_le _ _ _ hq
       rw [hq] at h
       simp only [Option.map_eq_some_iff] at h
       obtain ⟨us,h1,rfl⟩:=h
       obtain ⟨body,e,k1,k2,k3,k4⟩:=lexF_tok f (p+n) _ us (fun y hy=>hb y (List.mem_of_mem_drop hy)) h1
       obtain ⟨g1,g2⟩:=tok_tok (x :: l) t0 n p hb hq
       refine ⟨t0.goto p :: body,e,by rw [k1];rfl,k2, ?_, ?_⟩
       · intro t ht
         rcases List.mem_cons.1 ht with rfl | ht
         · exact g1
         · exact k3 t ht
       · rw [lenK_cons,g2];rw [List.length_drop] at k4;omega
theorem quoF_dblB:∀ (l b:List Int),(∀ x∈l,¬ x<32)→(∀ x,b.head? = some x→x≠34)→quoF (dblL l++34 :: b)=some (l,(dblL l).length+1)
 | [],b,_,hb=>by
   show quoF (34 :: b)=_
   rw [quoF_cons,if_neg (by omega),if_neg (by omega)]
   cases b with
   | nil=>rfl
   | cons y m =>
     have:=hb y rfl
     simp only [this,if_false]
     rfl
 | x :: l,b,h,hb=>by
   have ih:=quoF_dblB l b (fun y hy=>h y (by simp [hy])) hb
   have hx:=h x (by simp)
   by_cases h34:x=34
   · subst h34
     show quoF (34 :: 34 :: (dblL l++34 :: b))=_
     rw [quoF_cons,if_neg (by omega),if_neg (by omega)]
     simp only [if_true]
     rw [ih]
     rfl
   · have e:dblL (x :: l)=x :: dblL l:=by show (if x=34 then [34,34] else [x])++dblL l=_;rw [if_neg h34];rfl
     rw [e,List.cons_append,quoF_cons,if_neg hx,if_pos h34,ih]
     rfl
def Behind (t:Tk) (b:List Int):Prop :=
 (t.kind≠5→∀ x,b.head? = some x→isWord x=false∧x≠34)∧(t.kind=5→(t.text=⟨#[60]⟩∨t.text=⟨#[62]⟩)→∀ x,b.head? = some x→x≠61∧x≠62)
theorem word_no {x:Int} (h:isWord x=false):isNum x=false:=by
 cases c:isNum x with
 | false=>rfl
 | true=>rw [word_num c] at h;cases h
theorem tok_behind {a b:List Int} {t:Tk} (hba:Bytes a) (hq:tokT (a++[32])=some (t,a.length)) (hb:Behind t b):tokT (a++b)=some (t,a.length):=by
 cases a with
 | nil =>
   have:=(tokT_le _ _ _ hq).1
   simp at this
 | cons x a =>
   have hsp:∀ (p:Int→Bool),p 32=false→((x :: (a++[32])).takeWhile p).length=(x :: a).length→(∀ y,b.head? = some y→p y=false)→(x :: (a++[32])).takeWhile p=x :: a∧(x :: (a++b)).takeWhile p=x :: a:=by
    intro p hp hl hh
    obtain ⟨e1,_⟩:=span_alike (a:=x :: a) (b:=[32]) (b':=[32]) hp (.inr rfl) hl
    refine ⟨e1, ?_⟩
    have hall:∀ y∈x :: a,p y=true:=fun y hy=>take_all p (x :: (a++[32])) y (by rw [show (x :: (a++[32])).takeWhile p=x :: a from e1];exact hy)
    exact take_part p (x :: a) b hall hh
   rw [List.cons_append,tokT_cons] at hq ⊢
   by_cases h1:isNum x=true
   · rw [if_pos h1] at hq ⊢
     unfold numT at hq
     split at hq
     · cases hq
     · rename_i hn
       simp only [Option.some.injEq,Prod.mk.injEq] at hq
       have hk:t.kind≠5:=by rw [← hq.1];simp
       obtain ⟨e1,e2⟩:=hsp isNum (by decide) hq.2 (fun y hy=>word_no (hb.1 hk y hy).1)
       unfold numT
       rw [e2]
       rw [e1] at hn hq
       rw [if_neg (show ¬(1<(x :: a).length∧(x :: (a++b)).head? = some 48∨9223372036854775807<valL (x :: a)) from hn)]
       exact congrArg (fun u=>some (u,(x :: a).length)) hq.1
   · rw [if_neg h1] at hq ⊢
     by_cases h2:x=34
     · rw [if_pos h2] at hq ⊢
       unfold quoT at hq ⊢
       cases hr:quoF (a++[32]) with
       | none=>rw [hr] at hq;cases hq
       | some q =>
         rw [hr] at hq
         simp only [Option.map_some,Option.some.injEq,Prod.mk.injEq,List.length_cons] at hq
         have hk:t.kind≠5:=by rw [← hq.1];simp
         have hb2:Bytes (a++[32]):=by
          intro y hy
          rcases List.mem_append.1 hy with hy | hy
          · exact hba y (by simp [hy])
          · simp at hy;omega
         have g1:=(quoF_good _ _ q.1 q.2 (Nat.le_refl _) hb2 hr).2
         have g2:=quoF_text _ _ q.1 q.2 (Nat.le_refl _) hr
         have hl:q.2=a.length:=by omega
         rw [hl,List.take_left] at g2
         have e:a++b=dblL q.1++34 :: b:=by rw [g2];simp
         have e2:(dblL q.1).length+1=a.length:=by rw [g2];simp
         rw [e,quoF_dblB q.1 b g1 (fun y hy=>(hb.1 hk y hy).2)]
         simp only [Option.map_some,List.length_cons,Option.some.injEq,Prod.mk.injEq]
         exact ⟨hq.1,by omega⟩
     · rw [if_neg h2] at hq ⊢
       by_cases h3:x=35
       · rw [if_pos h3] at hq ⊢
         unfold deadT at hq ⊢
         by_cases h5:(x :: (a++[32])).take 5=[35,82,69,70,33]
         · rw [if_pos h5] at hq
           simp only [Option.some.injEq,Prod.mk.injEq] at hq
           have e1:(x :: (a++[32])).take 5=x :: a:=by rw [hq.2, ← List.cons_append];exact take_len _ _
           have e2:(x :: (a++b)).take 5=x :: a:=by rw [hq.2, ← List.cons_append];exact take_len _ _
           rw [e1] at h5
           rw [e2,if_pos h5,hq.1]
           exact congrArg (fun k=>some (t,k)) hq.2
         · rw [if_neg h5] at hq;cases hq
       · rw [if_neg h3] at hq ⊢
         by_cases h4:isLet x=true∨x=36
         · rw [if_pos h4] at hq ⊢
           have hn:((x :: (a++[32])).takeWhile isWord).length=(x :: a).length∧t.kind≠5:=by
            unfold wordT at hq
            split at hq
            · simp only [Option.some.injEq,Prod.mk.injEq] at hq;exact ⟨hq.2,by rw [← hq.1];simp⟩
            · split at hq
              · simp only [Option.some.injEq,Prod.mk.injEq] at hq;exact ⟨hq.2,by rw [← hq.1];simp⟩
              · cases hq
           obtain ⟨e1,e2⟩:=hsp isWord (by decide) hn.1 (fun y hy=>(hb.1 hn.2 y hy).1)
           rw [← hq]
           unfold wordT
           rw [e1,e2]
         · rw [if_neg h4] at hq ⊢
           unfold signT at hq ⊢
           by_cases h5:signN (x :: (a++[32]))=0
           · rw [if_pos h5] at hq;cases hq
           · rw [if_neg h5] at hq
             simp only [Option.some.injEq,Prod.mk.injEq] at hq
             have e1:(x :: (a++[32])).take (x :: a).length=x :: a:=by rw [← List.cons_append];exact take_len _ _
             have e2:(x :: (a++b)).take (x :: a).length=x :: a:=by rw [← List.cons_append];exact take_len _ _
             have e:signN (x :: (a++b))=signN (x :: (a++[32])):=by
              cases a with
              | nil =>
                have hs:signN (x :: [32])=1:=hq.2
                have ht:t.text=strOfNums [x]:=by
                 rw [← hq.1]
                 show strOfNums (List.take (signN (x :: [32])) (x :: [32]))=_
                 rw [hs];rfl
                have hk:t.kind=5:=by rw [← hq.1]
                have h6:¬ ((x=60∧(b.head? = some 62∨b.head? = some 61))∨(x=62∧b.head? = some 61)):=by
                 rintro (⟨rfl,h | h⟩ | ⟨rfl,h⟩)
                 · exact (hb.2 hk (.inl ht) _ h).2 rfl
                 · exact (hb.2 hk (.inl ht) _ h).1 rfl
                 · exact (hb.2 hk (.inr ht) _ h).1 rfl
                show signN (x :: b)=signN (x :: [32])
                have h7:¬ ((x=60∧(([32]:List Int).head? = some 62∨([32]:List Int).head? = some 61))∨(x=62∧([32]:List Int).head? = some 61)):=by simp
                rw [signN_cons,signN_cons,if_neg h6,if_neg h7]
              | cons y a=>rw [signN_cons,signN_cons];rfl
             rw [e,if_neg h5, ← hq.1,hq.2,e1,e2]
theorem tok_first {x:Int} {l:List Int} {t:Tk} {n:Nat} (h:tokT (x :: l)=some (t,n)):x≠32∧(t.kind=5→isWord x=false∧x≠34)∧(t.kind≠5→x≠61∧x≠62):=by
 rw [tokT_cons] at h
 by_cases h1:isNum x=true
 · rw [if_pos h1] at h
   have hx:=num_bd h1
   unfold numT at h
   split at h
   · cases h
   · simp only [Option.some.injEq,Prod.mk.injEq] at h
     refine ⟨by omega,fun h5 => ?_,fun _=>by omega⟩
     rw [← h.1] at h5;simp at h5
 · rw [if_neg h1] at h
   by_cases h2:x=34
   · rw [if_pos h2] at h
     unfold quoT at h
     cases hq:quoF l with
     | none=>rw [hq] at h;cases h
     | some q =>
       rw [hq] at h
       simp only [Option.map_some,Option.some.injEq,Prod.mk.injEq] at h
       refine ⟨by omega,fun h5 => ?_,fun _=>by omega⟩
       rw [← h.1] at h5;simp at h5
   · rw [if_neg h2] at h
     by_cases h3:x=35
     · rw [if_pos h3] at h
       unfold deadT at h
       split at h
       · simp only [Option.some.injEq,Prod.mk.injEq] at h
         refine ⟨by omega,fun h5 => ?_,fun _=>by omega⟩
         rw [← h.1] at h5;simp at h5
       · cases h
     · rw [if_neg h3] at h
       by_cases h4:isLet x=true∨x=36
       · rw [if_pos h4] at h
         have hx:x≠32∧x≠61∧x≠62:=by
          rcases h4 with h4 | h4
          · unfold isLet at h4;rw [decide_eq_true_iff] at h4;omega
          · omega
         refine ⟨hx.1,fun h5 => ?_,fun _=>hx.2⟩
         unfold wordT at h
         split at h
         · simp only [Option.some.injEq,Prod.mk.injEq] at h
           rw [← h.1] at h5;simp at h5
         · split at h
           · simp only [Option.some.injEq,Prod.mk.injEq] at h
             rw [← h.1] at h5;simp at h5
           · cases h
       · rw [if_neg h4] at h
         unfold signT at h
         split at h
         · cases h
         · rename_i h5
           simp only [Option.some.injEq,Prod.mk.injEq] at h
           rw [signN_cons] at h5
           have hx:x≠32∧x≠33:=by
            refine ⟨?_, ?_⟩
            · rintro rfl;exact h5 (by rw [if_neg (by omega),if_neg (by omega)])
            · rintro rfl;exact h5 (by rw [if_neg (by omega),if_neg (by omega)])
           refine ⟨hx.1,fun _=>⟨?_,h2⟩,fun h6=>absurd (show t.kind=5 by rw [← h.1]) h6⟩
           unfold isWord
           have g1:isLet x=false:=by cases c:isLet x with
            | false=>rfl
            | true=>exact absurd (.inl c) h4
           have g2:isNum x=false:=by cases c:isNum x with
            | false=>rfl
            | true=>exact absurd c h1
           rw [g1,g2]
           simp only [Bool.false_or]
           exact decide_eq_false (by rintro (h | h);exact h4 (.inr h);exact hx.2 h)
def Fs (t:Tk):Prop:=t.kind≠5∨t.text=⟨#[40]⟩∨t.text=⟨#[45]⟩
def Ls (t:Tk):Prop:=t.kind≠5∨t.text=⟨#[41]⟩
def Pr (t u:Tk):Prop:=(t.kind≠5→u.kind=5)∧(t.kind=5→(t.text=⟨#[60]⟩∨t.text=⟨#[62]⟩)→Fs u)
def Sep:List Tk→Prop
 | []=>True
 | t :: ts=>(∀ u,ts.head? = some u→Pr t u)∧Sep ts
theorem Sep.app:∀ {a b:List Tk},Sep a→Sep b→(∀ t u,a.getLast? = some t→b.head? = some u→Pr t u)→Sep (a++b)
 | [],_,_,h,_=>h
 | [t],b,_,h,hj=>⟨fun u hu=>hj t u rfl hu,h⟩
 | t :: t' :: a,b,g,h,hj=>⟨fun u hu=>g.1 u hu,Sep.app (a:=t' :: a) g.2 h (fun v u hv hu=>hj v u (by rw [← hv];rfl) hu)⟩
theorem ls_sign {t u:Tk} {s:ByteArray} (h:Ls t) (hu:IsS s u):Pr t u:=by
 refine ⟨fun _=>hu.1,fun h5 hs => ?_⟩
 rcases h with h | h
 · exact absurd h5 h
 · rw [h] at hs;exact absurd hs (by decide)
theorem sign_fs {t u:Tk} {s:ByteArray} (ht:IsS s t) (h:Fs u):Pr t u:=⟨fun h5=>absurd ht.1 h5,fun _ _=>h⟩
def Sq (ts:List Tk):Prop:=Sep ts∧(∃ t l,ts=t :: l∧Fs t)∧∃ l t,ts=l++[t]∧Ls t
theorem Sq.one {t:Tk} (h:t.kind≠5):Sq [t]:=⟨⟨fun u hu=>by simp at hu,trivial⟩,⟨t,[],rfl,.inl h⟩,[],t,rfl,.inl h⟩
theorem Sq.ahead {m:Tk} {s:ByteArray} (hm:IsS s m) (hf:Fs m) {a:List Tk} (h:Sq a):Sq (m :: a):=by
 obtain ⟨h1,⟨t,l,rfl,h2⟩,l',t',e,h3⟩:=h
 exact ⟨⟨fun u hu=>by injection hu with hu;subst hu;exact sign_fs hm h2,h1⟩,⟨m,_,rfl,hf⟩,m :: l',t',by rw [e];rfl,h3⟩
theorem Sq.mid {a b:List Tk} {c:Tk} {s:ByteArray} (h:Sq a) (hc:IsS s c) (g:Sq b):Sq (a++c :: b):=by
 obtain ⟨h1,⟨t,l,rfl,h2⟩,l',t',e,h3⟩:=h
 obtain ⟨g1,⟨u,m,rfl,g2⟩,m',u',e',g3⟩:=g
 refine ⟨?_,⟨t,_,rfl,h2⟩,(t :: l)++c :: m',u',by rw [e'];simp,g3⟩
 refine Sep.app h1 ⟨fun v hv=>by injection hv with hv;subst hv;exact sign_fs hc g2,g1⟩ ?_
 intro v w hv hw
 injection hw with hw
 subst hw
 rw [e,List.getLast?_append] at hv
 simp at hv
 subst hv
 exact ls_sign h3 hc
theorem Sq.brk {a:List Tk} {l r:Tk} (h:Sq a) (hl:IsS ⟨#[40]⟩ l) (hr:IsS ⟨#[41]⟩ r):Sq (l :: (a++[r])):=by
 obtain ⟨h1,⟨t,k,rfl,h2⟩,l',t',e,h3⟩:=h
 refine ⟨⟨fun u hu=>by injection hu with hu;subst hu;exact sign_fs hl h2, ?_⟩,⟨l,_,rfl,.inr (.inl hl.2)⟩,l :: (t :: k),r,rfl,.inr hr.2⟩
 refine Sep.app h1 ⟨fun u hu=>by simp at hu,trivial⟩ ?_
 intro v w hv hw
 injection hw with hw
 subst hw
 rw [e,List.getLast?_append] at hv
 simp at hv
 subst hv
 exact ls_sign h3 hr
theorem Sq.wr {n rk d d':Nat} {ts ts':List Tk} (h:Sq ts) (hw:Wr n rk d ts d' ts'):Sq ts':=by
 rcases hw with ⟨_,rfl,_⟩ | ⟨_,_,l,r,hl,hr,rfl⟩
 · exact h
 · exact h.brk hl hr
theorem Sq.name {a:List Tk} {t l r:Tk} (ht:t.kind=3) (hl:IsS ⟨#[40]⟩ l) (hr:IsS ⟨#[41]⟩ r) (h:a=[]∨Sq a):Sq (t :: l :: (a++[r])):=by
 have hp:∀ u,(l :: (a++[r])).head? = some u→Pr t u:=by
  intro u hu;injection hu with hu;subst hu
  exact ⟨fun _=>hl.1,fun h=>by omega⟩
 rcases h with rfl | h
 · exact ⟨⟨hp,fun u hu=>by injection hu with hu;subst hu;exact ⟨fun h=>absurd hl.1 h,fun _ h=>by rw [hl.2] at h;exact absurd h (by decide)⟩,fun u hu=>by simp at hu,trivial⟩,⟨t,_,rfl,.inl (by omega)⟩,[t,l],r,rfl,.inr hr.2⟩
 · have g:=h.brk hl hr
   exact ⟨⟨hp,g.1⟩,⟨t,_,rfl,.inl (by omega)⟩,t :: l :: a,r,rfl,.inr hr.2⟩
theorem leaf_sq {ts:List Tk} {nd:Nd} (h:LeafS ts nd):Sq ts:=by
 cases h with
 | num t h=>exact Sq.one (by omega)
 | text t h=>exact Sq.one (by omega)
 | yes t h _=>exact Sq.one (by omega)
 | no t h _=>exact Sq.one (by omega)
 | dead t h=>exact Sq.one (by omega)
 | ref t h=>exact Sq.one (by omega)
 | range t c u h hc g _=>exact Sq.mid (a:=[t]) (b:=[u]) (Sq.one (by omega)) hc (Sq.one (by omega))
theorem sh_sq {b:Bool} {base:Nat} {ns:List Nd} {ks:List Int} {ts:List Tk} {rk d:Nat} (h:Sh b base ns ks ts rk d) :
 (b=false→Sq ts)∧(b=true→(ks=[]∧ts=[])∨(ks≠[]∧Sq ts)):=by
 induction h with
 | leaf base ts nd h=>exact ⟨fun _=>leaf_sq h,fun h=>by cases h⟩
 | neg base ns a ts rk d h m hm d' ts' hw ih=>exact ⟨fun _=>((ih.1 rfl).wr hw).ahead hm (.inr (.inr hm.2)),fun h=>by cases h⟩
 | op base o ho ns ms a b ts us rk1 rk2 d1 d2 h g s hs e1 e2 ts' us' hw gw ih ig=>exact ⟨fun _=>((ih.1 rfl).wr hw).mid hs ((ig.1 rfl).wr gw),fun h=>by cases h⟩
 | call base ns ks ts d h t l r ht h1 h2 hl hr ih =>
   refine ⟨fun _=>Sq.name ht hl hr ?_,fun h=>by cases h⟩
   rcases ih.2 rfl with ⟨_,h⟩ | ⟨_,h⟩
   · exact .inl h
   · exact .inr h
 | none base=>exact ⟨fun h=>(by cases h),fun _ => .inl ⟨rfl,rfl⟩⟩
 | one base ns a ts rk d h ih=>exact ⟨fun h=>(by cases h),fun _ => .inr ⟨by simp,ih.1 rfl⟩⟩
 | and base ns ms ks b ts us rk d1 d2 h hk c hc g ih ig =>
   refine ⟨fun h=>(by cases h),fun _ => .inr ⟨by simp, ?_⟩⟩
   rcases ih.2 rfl with ⟨h,_⟩ | ⟨_,h⟩
   · exact absurd h hk
   · exact h.mid hc (ig.1 rfl)
def txL (ts:List Tk):List Int:=ts.flatMap txK
theorem txL_cons (t:Tk) (ts:List Tk):txL (t :: ts)=txK t++txL ts:=rfl
theorem txL_len (ts:List Tk):(txL ts).length=lenK ts:=by
 induction ts with
 | nil=>rfl
 | cons t ts ih=>rw [txL_cons,List.length_append,ih];rfl
theorem tok_head {t:Tk} (h:Tok t):∃ x l,txK t=x :: l∧x≠32∧(t.kind=5→isWord x=false∧x≠34)∧(t.kind≠5→x≠61∧x≠62):=by
 have hn:=(tokT_le _ _ _ h.2.1).1
 cases e:txK t with
 | nil=>rw [e] at hn;simp at hn
 | cons x l =>
   have h2:=h.2.1
   rw [e,List.cons_append] at h2
   have g:=tok_first h2
   exact ⟨x,l,rfl,g.1,fun h=>g.2.1 h,fun h=>g.2.2 h⟩
theorem behind_all {t:Tk} {ts:List Tk} (hp:∀ u,ts.head? = some u→Pr t u) (hu:∀ u∈ts,Tok u):Behind t (txL ts):=by
 cases ts with
 | nil=>exact ⟨fun _ x hx=>by simp [txL] at hx,fun _ _ x hx=>by simp [txL] at hx⟩
 | cons u us =>
   obtain ⟨x,l,e,h1,h2,h3⟩:=tok_head (hu u (by simp))
   have hpr:=hp u rfl
   have hh:(txL (u :: us)).head? = some x:=by rw [txL_cons,e];rfl
   refine ⟨fun hk y hy => ?_,fun hk hs y hy => ?_⟩
   · rw [hh] at hy;injection hy with hy;subst hy;exact h2 (hpr.1 hk)
   · rw [hh] at hy;injection hy with hy;subst hy
     rcases hpr.2 hk hs with g | g | g
     · exact h3 g
     · by_cases h5:u.kind=5
       · have:txK u=[40]:=by unfold txK;simp only [h5,g];rfl
         rw [this] at e;injection e with e _;omega
       · exact h3 h5
     · by_cases h5:u.kind=5
       · have:txK u=[45]:=by unfold txK;simp only [h5,g];rfl
         rw [this] at e;injection e with e _;omega
       · exact h3 h5
theorem lex_sep:∀ (ts:List Tk) (p:Nat),Sep ts→(∀ t∈ts,Tok t)→∃ vs e,lexG p (txL ts)=some (vs++[e])∧e.kind=0∧vs.map (Tk.goto · 0)=ts.map (Tk.goto · 0)
 | [],p,_,_=>⟨[],_,lexG_nil p,rfl,rfl⟩
 | t :: ts,p,hs,ht=>by
   have h1:=ht t (by simp)
   have h2:=h1.2.2
   obtain ⟨vs,e,g1,g2,g3⟩:=lex_sep ts (p+(txK t).length) hs.2 (fun u hu=>ht u (by simp [hu]))
   obtain ⟨x,l,hx,hx2,_⟩:=tok_head h1
   have hb:Behind t (txL ts):=behind_all hs.1 (fun u hu=>ht u (by simp [hu]))
   have hq:=tok_behind (t:=t.goto 0) h2 h1.2.1 hb
   refine ⟨(t.goto 0).goto p :: vs,e, ?_,g2,by rw [List.map_cons,List.map_cons,g3];rfl⟩
   rw [txL_cons,lexG_app p (txK t) (txL ts) (t.goto 0) (fun y hy=>by rw [hx] at hy;injection hy with hy;omega) hq,g1]
   rfl
theorem IsS.goto {s:ByteArray} {t v:Tk} (h:IsS s t) (hv:v.goto 0=t.goto 0):IsS s v :=
 ⟨(congrArg Tk.kind hv).trans h.1,(congrArg Tk.text hv).trans h.2⟩
theorem rf_goto {t v:Tk} (hv:v.goto 0=t.goto 0):v.rf=t.rf:=(show (v.goto 0).rf=(t.goto 0).rf by rw [hv])
theorem LeafS.goto {ts:List Tk} {nd:Nd} (h:LeafS ts nd) (vs:List Tk) (hv:vs.map (Tk.goto · 0)=ts.map (Tk.goto · 0)):LeafS vs nd:=by
 have one:∀ t:Tk,vs.map (Tk.goto · 0)=[t].map (Tk.goto · 0)→∃ v,vs=[v]∧v.goto 0=t.goto 0:=by
  intro t h
  rw [List.map_cons,List.map_nil] at h
  obtain ⟨v,l,h1,h2,h3⟩:=List.map_eq_cons_iff.1 h
  rw [List.map_eq_nil_iff] at h3
  exact ⟨v,by rw [h1,h3],h2⟩
 cases h with
 | num t h =>
   obtain ⟨v,rfl,e⟩:=one t hv
   have:=congrArg Tk.num e
   rw [← show v.num=t.num from this]
   exact .num v ((congrArg Tk.kind e).trans h)
 | text t h =>
   obtain ⟨v,rfl,e⟩:=one t hv
   have:=congrArg Tk.text e
   rw [← show v.text=t.text from this]
   exact .text v ((congrArg Tk.kind e).trans h)
 | yes t h g =>
   obtain ⟨v,rfl,e⟩:=one t hv
   exact .yes v ((congrArg Tk.kind e).trans h) ((congrArg Tk.text e).trans g)
 | no t h g =>
   obtain ⟨v,rfl,e⟩:=one t hv
   exact .no v ((congrArg Tk.kind e).trans h) ((congrArg Tk.text e).trans g)
 | dead t h =>
   obtain ⟨v,rfl,e⟩:=one t hv
   exact .dead v ((congrArg Tk.kind e).trans h)
 | ref t h =>
   obtain ⟨v,rfl,e⟩:=one t hv
   rw [← rf_goto e]
   exact .ref v ((congrArg Tk.kind e).trans h)
 | range t c u h hc g hs =>
   rw [List.map_cons,List.map_cons,List.map_cons,List.map_nil] at hv
   obtain ⟨t',l,rfl,e1,h3⟩:=List.map_eq_cons_iff.1 hv
   obtain ⟨c',l,rfl,e2,h3⟩:=List.map_eq_cons_iff.1 h3
   obtain ⟨u',l,rfl,e3,h3⟩:=List.map_eq_cons_iff.1 h3
   rw [List.map_eq_nil_iff] at h3
   subst h3
   rw [← rf_goto e1, ← rf_goto e3] at hs ⊢
   exact .range t' c' u' ((congrArg Tk.kind e1).trans h) (hc.goto e2) ((congrArg Tk.kind e3).trans g) hs
theorem Wr.goto {n rk d d':Nat} {ts ts' vs':List Tk} (h:Wr n rk d ts d' ts') (hv:vs'.map (Tk.goto · 0)=ts'.map (Tk.goto · 0)):∃ vs,vs.map (Tk.goto · 0)=ts.map (Tk.goto · 0)∧Wr n rk d vs d' vs':=by
 rcases h with ⟨h1,rfl,rfl⟩ | ⟨h1,rfl,l,r,hl,hr,rfl⟩
 · exact ⟨vs',hv,.inl ⟨h1,rfl,rfl⟩⟩
 · rw [List.map_cons,List.map_append,List.map_cons,List.map_nil] at hv
   obtain ⟨l',k,rfl,e1,h3⟩:=List.map_eq_cons_iff.1 hv
   obtain ⟨vs,k2,rfl,e2,h3⟩:=List.map_eq_append_iff.1 h3
   obtain ⟨r',k3,rfl,e3,h3⟩:=List.map_eq_cons_iff.1 h3
   rw [List.map_eq_nil_iff] at h3
   subst h3
   exact ⟨vs,e2,.inr ⟨h1,rfl,l',r',hl.goto e1,hr.goto e3,rfl⟩⟩
theorem Sh.goto {b:Bool} {base:Nat} {ns:List Nd} {ks:List Int} {ts:List Tk} {rk d:Nat} (h:Sh b base ns ks ts rk d):∀ vs:List Tk,vs.map (Tk.goto · 0)=ts.map (Tk.goto · 0)→Sh b base ns ks vs rk d:=by
 induction h with
 | leaf base ts nd h=>exact fun vs hv => .leaf base vs nd (h.goto vs hv)
 | neg base ns a ts rk d h m hm d' ts' hw ih =>
   intro vs hv
   rw [List.map_cons] at hv
   obtain ⟨m',k,rfl,e1,h3⟩:=List.map_eq_cons_iff.1 hv
   obtain ⟨us,e2,hw'⟩:=hw.goto h3
   exact .neg base ns a us rk d (ih us e2) m' (hm.goto e1) d' k hw'
 | op base o ho ns ms a b ts us rk1 rk2 d1 d2 h g s hs e1 e2 ts' us' hw gw ih ig =>
   intro vs hv
   rw [List.map_append,List.map_cons] at hv
   obtain ⟨a',k,rfl,f1,h3⟩:=List.map_eq_append_iff.1 hv
   obtain ⟨s',b',rfl,f2,f3⟩:=List.map_eq_cons_iff.1 h3
   obtain ⟨xs,x1,hw'⟩:=hw.goto f1
   obtain ⟨ys,y1,gw'⟩:=gw.goto f3
   exact .op base o ho ns ms a b xs ys rk1 rk2 d1 d2 (ih xs x1) (ig ys y1) s' (hs.goto f2) e1 e2 a' b' hw' gw'
 | call base ns ks ts d h t l r ht h1 h2 hl hr ih =>
   intro vs hv
   rw [List.map_cons,List.map_cons,List.map_append,List.map_cons,List.map_nil] at hv
   obtain ⟨t',k,rfl,f1,h3⟩:=List.map_eq_cons_iff.1 hv
   obtain ⟨l',k,rfl,f2,h3⟩:=List.map_eq_cons_iff.1 h3
   obtain ⟨a',k,rfl,f3,h3⟩:=List.map_eq_append_iff.1 h3
   obtain ⟨r',k,rfl,f4,h3⟩:=List.map_eq_cons_iff.1 h3
   rw [List.map_eq_nil_iff] at h3
   subst h3
   have ht':t'.text=t.text:=(show (t'.goto 0).text=(t.goto 0).text by rw [f1])
   rw [← ht']
   exact .call base ns ks a' d (ih a' f3) t' l' r' ((congrArg Tk.kind f1).trans ht) (by rw [ht'];exact h1) (by rw [ht'];exact h2) (hl.goto f2) (hr.goto f4)
 | none base =>
   intro vs hv
   rw [List.map_nil,List.map_eq_nil_iff] at hv
   subst hv
   exact .none base
 | one base ns a ts rk d h ih=>exact fun vs hv => .one base ns a vs rk d (ih vs hv)
 | and base ns ms ks b ts us rk d1 d2 h hk c hc g ih ig =>
   intro vs hv
   rw [List.map_append,List.map_cons] at hv
   obtain ⟨a',k,rfl,f1,h3⟩:=List.map_eq_append_iff.1 hv
   obtain ⟨c',b',rfl,f2,f3⟩:=List.map_eq_cons_iff.1 h3
   exact .and base ns ms ks b a' b' rk d1 d2 (ih a' f1) hk c' (hc.goto f2) (ig b' f3)
theorem sh_text {ns:List Nd} {a:Int} {ts:List Tk} {rk d:Nat} (h:Sh false 0 ns [a] ts rk d) (hd:d≤12) (ht:∀ t∈ts,Tok t):∃ vs g,lexL (txL ts)=some vs∧parseP g vs=some (.ok ns):=by
 obtain ⟨vs,e,h1,h2,h3⟩:=lex_sep ts 0 ((sh_sq h).1 rfl).1 ht
 obtain ⟨g,hg⟩:=sh_parse (h.goto vs h3) hd e h2
 exact ⟨vs++[e],g,h1,hg⟩
theorem told_text {l:List Int} {ts:List Tk} {f:Nat} {ns:List Nd} (hb:Bytes l) (hl:lexL l=some ts) (hp:parseP f ts=some (.ok ns)) :
 ∃ us rk d a,Sh false 0 ns [a] us rk d∧d≤12∧(∀ t∈us,Tok t)∧(txL us).length≤l.length∧∃ vs g,lexL (txL us)=some vs∧parseP g vs=some (.ok ns):=by
 obtain ⟨body,e,h1,h2,h3,h4⟩:=lexF_tok _ _ _ _ hb hl
 unfold parseP at hp
 rcases bindR_some hp with ⟨er,_,h5⟩ | ⟨ms,a,r,h5,h6⟩
 · cases h5
 · by_cases hk:kindAt r=0
   · rw [if_pos hk] at h6
     injection h6 with h6;injection h6 with h6
     subst h6
     obtain ⟨pre,e1,us,rk,d,us',d',g1,g2,g3,g4⟩:=(has_all f).1 _ _ _ _ _ _ _ h5 (by omega) (by omega)
     obtain ⟨pre',e2,k2,_⟩:=((told_all f).1 _ _ _ _ _ _ _ h5).1
     rcases g2 with ⟨_,rfl,rfl⟩ | ⟨g2,_⟩
     · have ep:pre=pre':=List.append_cancel_right (e1.symm.trans e2)
       subst ep
       have hsub:us'.Sublist body:=by
        have s1:us'.Sublist ts:=by rw [e1];exact g3.trans (List.sublist_append_left _ _)
        have s2:=s1.filter (fun t=>decide (t.kind≠0))
        rw [h1,List.filter_append] at s2
        have f1:us'.filter (fun t=>decide (t.kind≠0))=us':=List.filter_eq_self.2 (fun t ht=>decide_eq_true (k2 t (g3.subset ht)))
        have f2:body.filter (fun t=>decide (t.kind≠0))=body:=List.filter_eq_self.2 (fun t ht=>decide_eq_true (h3 t ht).1)
        have f3:[e].filter (fun t=>decide (t.kind≠0))=[]:=by simp [h2]
        rw [f1,f2,f3,List.append_nil] at s2
        exact s2
       have htok:∀ t∈us',Tok t:=fun t ht=>h3 t (hsub.subset ht)
       refine ⟨us',rk,d',_,g1,by omega,htok, ?_,sh_text g1 (by omega) htok⟩
       rw [txL_len]
       exact Nat.le_trans (lenK_sub hsub) h4
     · omega
   · rw [if_neg hk] at h6;injection h6 with h6;cases h6
def rankL (k:Int):Nat:=if 9≤k∧k≤14 then 0 else if k=15 then 1 else if 16≤k∧k≤17 then 2 else if 18≤k∧k≤19 then 3 else if k=8 then 4 else 5
def inL (b:Bool) (t:List Int):List Int:=if b=true then 40 :: (t++[41]) else t
def joinA:List (List Int)→List Int
 | []=>[]
 | [a]=>a
 | a :: b :: l=>a++44 :: joinA (b :: l)
def nodeAt (l:List Nd) (at':Int):Nd:=l.getD at'.toNat Nd.zero
def shownL:Nat→List Nd→Int→List Int
 | 0,_,_=>[]
 | f + 1,l,i =>
   if (nodeAt l i).kind=1 then digL (nodeAt l i).num.toNat
   else if (nodeAt l i).kind=2 then 34 :: (dblL (sb (nodeAt l i).text)++[34])
   else if (nodeAt l i).kind=3 then (if (nodeAt l i).num=1 then [84,82,85,69] else [70,65,76,83,69])
   else if (nodeAt l i).kind=4 then [35,82,69,70,33]
   else if (nodeAt l i).kind=5 then textL (sb (nodeAt l i).ref.sh) (nodeAt l i).ref.c (nodeAt l i).ref.r (nodeAt l i).ref.ac (nodeAt l i).ref.ar
   else if (nodeAt l i).kind=6 then textL (sb (nodeAt l i).ref.sh) (nodeAt l i).ref.c (nodeAt l i).ref.r (nodeAt l i).ref.ac (nodeAt l i).ref.ar++58 :: textL (sb (nodeAt l i).zto.sh) (nodeAt l i).zto.c (nodeAt l i).zto.r (nodeAt l i).zto.ac (nodeAt l i).zto.ar
   else if (nodeAt l i).kind=7 then sb (nodeAt l i).text++40 :: (joinA ((nodeAt l i).kids.map (shownL f l))++[41])
   else if (nodeAt l i).kind=8 then 45 :: inL (decide (rankL (nodeAt l ((nodeAt l i).kids.getD 0 0)).kind<4)) (shownL f l ((nodeAt l i).kids.getD 0 0))
   else inL (decide (rankL (nodeAt l ((nodeAt l i).kids.getD 0 0)).kind<rankL (nodeAt l i).kind)) (shownL f l ((nodeAt l i).kids.getD 0 0)) ++
    (opL ((nodeAt l i).kind - 9).toNat++inL (decide (rankL (nodeAt l ((nodeAt l i).kids.getD 1 0)).kind≤rankL (nodeAt l i).kind)) (shownL f l ((nodeAt l i).kids.getD 1 0)))
def printL (l:List Nd):List Int:=if treeB l=true then shownL l.length l ((l.length:Int) - 1) else []
theorem joinA_snoc (y:List Int):∀ xs:List (List Int),xs≠[]→joinA (xs++[y])=joinA xs++44 :: y
 | [],h=>absurd rfl h
 | [x],_=>rfl
 | x :: x' :: xs,_=>by
   have ih:=joinA_snoc y (x' :: xs) (by simp)
   show x++44 :: joinA (x' :: xs++[y])=x++44 :: joinA (x' :: xs)++44 :: y
   rw [ih];simp
theorem shown_succ (f:Nat) (l:List Nd) (i:Int) (n:Nd) (h:nodeAt l i=n):shownL (f+1) l i =
 if n.kind=1 then digL n.num.toNat
 else if n.kind=2 then 34 :: (dblL (sb n.text)++[34])
 else if n.kind=3 then (if n.num=1 then [84,82,85,69] else [70,65,76,83,69])
 else if n.kind=4 then [35,82,69,70,33]
 else if n.kind=5 then textL (sb n.ref.sh) n.ref.c n.ref.r n.ref.ac n.ref.ar
 else if n.kind=6 then textL (sb n.ref.sh) n.ref.c n.ref.r n.ref.ac n.ref.ar++58 :: textL (sb n.zto.sh) n.zto.c n.zto.r n.zto.ac n.zto.ar
 else if n.kind=7 then sb n.text++40 :: (joinA (n.kids.map (shownL f l))++[41])
 else if n.kind=8 then 45 :: inL (decide (rankL (nodeAt l (n.kids.getD 0 0)).kind<4)) (shownL f l (n.kids.getD 0 0))
 else inL (decide (rankL (nodeAt l (n.kids.getD 0 0)).kind<rankL n.kind)) (shownL f l (n.kids.getD 0 0)) ++
  (opL (n.kind - 9).toNat++inL (decide (rankL (nodeAt l (n.kids.getD 1 0)).kind≤rankL n.kind)) (shownL f l (n.kids.getD 1 0))):=by
 subst h;conv=>lhs;unfold shownL
theorem txL_app (a b:List Tk):txL (a++b)=txL a++txL b:=by unfold txL;rw [List.flatMap_append]
theorem txK_sign {s:ByteArray} {t:Tk} (h:IsS s t):txK t=sb s:=by
 unfold txK;rw [h.1,h.2];rfl
theorem txL_wr {n rk d d':Nat} {ts ts':List Tk} (h:Wr n rk d ts d' ts'):txL ts'=inL (decide (rk<n)) (txL ts):=by
 rcases h with ⟨h,rfl,_⟩ | ⟨h,_,l,r,hl,hr,rfl⟩
 · rw [decide_eq_false (by omega)];rfl
 · rw [decide_eq_true h,txL_cons,txL_app,txL_cons,txK_sign hl,txK_sign hr];rfl
def InL (l:List Nd) (base:Nat) (ns:List Nd):Prop:=∃ pre post,l=pre++(ns++post)∧pre.length=base
theorem InL.left {l ns ms:List Nd} {base:Nat} (h:InL l base (ns++ms)):InL l base ns:=by
 obtain ⟨p,q,h1,h2⟩:=h;exact ⟨p,ms++q,by rw [h1];simp,h2⟩
theorem InL.right {l ns ms:List Nd} {base:Nat} (h:InL l base (ns++ms)):InL l (base+ns.length) ms:=by
 obtain ⟨p,q,h1,h2⟩:=h;exact ⟨p++ns,q,by rw [h1];simp,by rw [List.length_append,h2]⟩
theorem InL.at {l:List Nd} {base:Nat} {n:Nd} (h:InL l base [n]):nodeAt l (base:Int)=n:=by
 obtain ⟨p,q,h1,h2⟩:=h
 unfold nodeAt
 rw [h1,Int.toNat_natCast, ← h2];simp
theorem op_rank:∀ o:Nat,o<11→rankL (9+(o:Int))=rk o∧sb (opS.getD o ⟨#[]⟩)=opL o:=by decide +kernel
theorem sh_shown {b:Bool} {base:Nat} {ns:List Nd} {ks:List Int} {ts:List Tk} {rq d:Nat} (h:Sh b base ns ks ts rq d) :
 ∀ l f,InL l base ns→ns.length≤f→(b=false→∀ a,ks=[a]→shownL f l a=txL ts∧rankL (nodeAt l a).kind=rq)∧(b=true→joinA (ks.map (shownL f l))=txL ts):=by
 induction h with
 | leaf base ts nd h =>
   intro l f hi hf
   refine ⟨fun _ a ha => ?_,fun h=>by cases h⟩
   injection ha with ha _
   subst ha
   obtain ⟨g,rfl⟩:∃ g,f=g+1:=⟨f - 1,by simp at hf;omega⟩
   have hn:=hi.at
   rw [hn]
   rw [shown_succ g l _ nd hn]
   cases h with
   | num t h=>refine ⟨?_,rfl⟩;rw [if_pos rfl,txL_cons];unfold txK;rw [if_pos h];simp [txL]
   | text t h=>refine ⟨?_,rfl⟩;rw [if_neg (by simp),if_pos rfl,txL_cons];unfold txK;rw [h,if_neg (by decide),if_pos rfl];simp [txL]
   | yes t h g=>refine ⟨?_,rfl⟩;rw [if_neg (by decide),if_neg (by decide),if_pos rfl,if_pos rfl,txL_cons];unfold txK;rw [h,g,if_neg (by decide),if_neg (by decide),if_neg (by decide),if_neg (by decide)];rfl
   | no t h g=>refine ⟨?_,rfl⟩;rw [if_neg (by decide),if_neg (by decide),if_pos rfl,if_neg (by decide),txL_cons];unfold txK;rw [h,g,if_neg (by decide),if_neg (by decide),if_neg (by decide),if_neg (by decide)];rfl
   | dead t h=>refine ⟨?_,rfl⟩;rw [if_neg (by decide),if_neg (by decide),if_neg (by decide),if_pos rfl,txL_cons];unfold txK;rw [h,if_neg (by decide),if_neg (by decide),if_neg (by decide),if_pos rfl];rfl
   | ref t h =>
     refine ⟨?_,rfl⟩
     rw [if_neg (by simp),if_neg (by simp),if_neg (by simp),if_neg (by simp),if_pos rfl,txL_cons]
     unfold txK;rw [h,if_neg (by decide),if_neg (by decide),if_pos rfl];simp [txL,Tk.rf]
   | range t c u h hc g hs =>
     refine ⟨?_,rfl⟩
     rw [if_neg (by simp),if_neg (by simp),if_neg (by simp),if_neg (by simp),if_neg (by simp),if_pos rfl,txL_cons,txL_cons,txL_cons,txK_sign hc]
     unfold txK;rw [h,g,if_neg (by decide),if_neg (by decide),if_pos rfl,if_neg (by decide),if_neg (by decide),if_pos rfl]
     have:sb (⟨#[58]⟩:ByteArray)=[58]:=by decide
     rw [this];simp [txL,Tk.rf]
 | neg base ns a ts rk d h m hm d' ts' hw ih =>
   intro l f hi hf
   refine ⟨fun _ a' ha => ?_,fun h=>by cases h⟩
   injection ha with ha _
   subst ha
   rw [List.length_append,List.length_singleton] at hf
   obtain ⟨g,rfl⟩:∃ g,f=g+1:=⟨f - 1,by omega⟩
   obtain ⟨e1,e2⟩:=(ih l g hi.left (by omega)).1 rfl a rfl
   have hn:=hi.right.at
   rw [hn]
   refine ⟨?_,rfl⟩
   rw [shown_succ g l _ _ hn,if_neg (by simp),if_neg (by simp),if_neg (by simp),if_neg (by simp),if_neg (by simp),if_neg (by simp),if_neg (by simp),if_pos rfl,txL_cons,txK_sign hm,txL_wr hw]
   show 45 :: inL (decide (rankL (nodeAt l a).kind<4)) (shownL g l a)=_
   rw [e1,e2];rfl
 | op base o ho ns ms a b ts us rk1 rk2 d1 d2 h g s hs x1 x2 ts' us' hw gw ih ig =>
   intro l f hi hf
   refine ⟨fun _ a' ha => ?_,fun h=>by cases h⟩
   injection ha with ha _
   subst ha
   rw [List.length_append,List.length_append,List.length_singleton] at hf
   obtain ⟨q,rfl⟩:∃ q,f=q+1:=⟨f - 1,by omega⟩
   obtain ⟨e1,e2⟩:=(ih l q hi.left (by omega)).1 rfl a rfl
   obtain ⟨j1,j2⟩:=(ig l q hi.right.left (by omega)).1 rfl b rfl
   have hn:=hi.right.right.at
   rw [Nat.add_assoc] at hn
   obtain ⟨hr,ht⟩:=op_rank o ho
   rw [hn]
   refine ⟨?_,hr⟩
   rw [shown_succ q l _ _ hn,if_neg (by show ¬ 9+(o:Int)=1;omega),if_neg (by show ¬ 9+(o:Int)=2;omega),if_neg (by show ¬ 9+(o:Int)=3;omega),if_neg (by show ¬ 9+(o:Int)=4;omega),if_neg (by show ¬ 9+(o:Int)=5;omega),
    if_neg (by show ¬ 9+(o:Int)=6;omega),if_neg (by show ¬ 9+(o:Int)=7;omega),if_neg (by show ¬ 9+(o:Int)=8;omega),txL_app,txL_cons,txK_sign hs,txL_wr hw,txL_wr gw]
   show inL (decide (rankL (nodeAt l a).kind<rankL (9+(o:Int)))) (shownL q l a)++(opL (9+(o:Int) - 9).toNat++inL (decide (rankL (nodeAt l b).kind≤rankL (9+(o:Int)))) (shownL q l b))=_
   rw [e1,e2,j1,j2,hr,ht,show (9+(o:Int) - 9).toNat=o by omega]
   have:decide (rk2≤rk o)=decide (rk2<rk o+1):=by rw [decide_eq_decide];omega
   rw [this]
 | call base ns ks ts d h t x r ht h1 h2 hl hr ih =>
   intro l f hi hf
   refine ⟨fun _ a' ha => ?_,fun h=>by cases h⟩
   injection ha with ha _
   subst ha
   rw [List.length_append,List.length_singleton] at hf
   obtain ⟨g,rfl⟩:∃ g,f=g+1:=⟨f - 1,by omega⟩
   have e1:=(ih l g hi.left (by omega)).2 rfl
   have hn:=hi.right.at
   rw [hn]
   refine ⟨?_,rfl⟩
   rw [shown_succ g l _ _ hn,if_neg (by simp),if_neg (by simp),if_neg (by simp),if_neg (by simp),if_neg (by simp),if_neg (by simp),if_pos rfl,txL_cons,txL_cons,txL_app,txL_cons,txK_sign hl,txK_sign hr]
   have:txK t=sb t.text:=by unfold txK;rw [ht];rfl
   rw [this]
   show sb t.text++40 :: (joinA (ks.map (shownL g l))++[41])=_
   rw [e1];rfl
 | none base=>exact fun l f _ _=>⟨fun h=>(by cases h),fun _=>rfl⟩
 | one base ns a ts rk d h ih =>
   intro l f hi hf
   exact ⟨fun h=>(by cases h),fun _=>((ih l f hi hf).1 rfl a rfl).1⟩
 | and base ns ms ks b ts us rk d1 d2 h hk c hc g ih ig =>
   intro l f hi hf
   refine ⟨fun h=>(by cases h),fun _ => ?_⟩
   rw [List.length_append] at hf
   have e1:=(ih l f hi.left (by omega)).2 rfl
   have e2:=((ig l f hi.right (by omega)).1 rfl b rfl).1
   rw [List.map_append,List.map_cons,List.map_nil,joinA_snoc _ _ (by simpa using hk),e1,e2,txL_app,txL_cons,txK_sign hc]
   rfl
theorem sh_len {b:Bool} {base:Nat} {ns:List Nd} {ks:List Int} {ts:List Tk} {rq d:Nat} (h:Sh b base ns ks ts rq d):b=false→ks=[((base+ns.length:Nat):Int) - 1]:=by
 cases h with
 | leaf base ts nd h=>intro _;simp
 | neg base ns a ts rk d h m hm d' ts' hw=>intro _;simp;omega
 | op base o ho ns ms a b ts us rk1 rk2 d1 d2 h g s hs e1 e2 ts' us' hw gw=>intro _;simp;omega
 | call base ns ks ts d h t l r ht h1 h2 hl hr=>intro _;simp;omega
 | none base=>intro h;cases h
 | one base ns a ts rk d h=>intro h;cases h
 | and base ns ms ks b ts us rk d1 d2 h hk c hc g=>intro h;cases h
theorem sh_print {ns:List Nd} {a:Int} {ts:List Tk} {rq d:Nat} (h:Sh false 0 ns [a] ts rq d) (ht:treeB ns=true):printL ns=txL ts:=by
 unfold printL
 rw [if_pos ht]
 have e:=sh_len h rfl
 have:=((sh_shown h ns ns.length ⟨[],[],by simp,rfl⟩ (Nat.le_refl _)).1 rfl a rfl).1
 injection e with e _
 rw [e,Nat.zero_add] at this
 exact this
theorem print_told {l:List Int} {ts:List Tk} {f:Nat} {ns:List Nd} (hb:Bytes l) (hl:lexL l=some ts) (hp:parseP f ts=some (.ok ns)) (ht:treeB ns=true) :
 (printL ns).length≤l.length∧∃ vs g,lexL (printL ns)=some vs∧parseP g vs=some (.ok ns):=by
 obtain ⟨us,rq,d,a,h1,h2,h3,h4,h5⟩:=told_text hb hl hp
 rw [sh_print h1 ht]
 exact ⟨h4,h5⟩
theorem tree_kids:∀ (ns:List Nd) (st:List Int) (i:Nat),(∀ k∈st,0≤k∧k<i)→treeF st i ns=true→∀ (j:Nat) (n:Nd),ns[j]? = some n→nodeB n=true∧∀ k∈n.kids,0≤k∧k<((i+j:Nat):Int)
 | [],_,_,_,_,j,n,h=>by simp at h
 | m :: ns,st,i,hst,ht,j,n,h=>by
   rw [treeF_cons,Bool.and_eq_true,Bool.and_eq_true,Bool.and_eq_true,decide_eq_true_iff,decide_eq_true_iff] at ht
   obtain ⟨h1,h2,h3,h4⟩:=ht
   cases j with
   | zero =>
     have:m=n:=by simpa using h
     subst this
     refine ⟨h1,fun k hk => ?_⟩
     rw [← h3] at hk
     exact hst k (List.mem_of_mem_drop hk)
   | succ j =>
     have g:=tree_kids ns _ (i+1) (by
      intro k hk
      rcases List.mem_append.1 hk with hk | hk
      · have:=hst k (List.mem_of_mem_take hk);omega
      · simp at hk;omega) h4 j n (by simpa using h)
     rw [show i+(j+1)=i+1+j by omega]
     exact g
theorem tree_at {l:List Nd} (h:treeB l=true) {i:Int} (h0:0≤i) (h1:i<l.length):nodeB (nodeAt l i)=true∧∀ k∈(nodeAt l i).kids,0≤k∧k<i:=by
 have hi:i.toNat<l.length:=by omega
 have hn:l[i.toNat]? = some (nodeAt l i):=by
  unfold nodeAt;rw [List.getD_eq_getElem?_getD,List.getElem?_eq_getElem hi];rfl
 have:=tree_kids l [] 0 (by intro k hk;simp at hk) h i.toNat _ hn
 refine ⟨this.1,fun k hk => ?_⟩
 have:=this.2 k hk
 omega
theorem arms_kids {n:Nd} (h:nodeB n=true):(n.kind=8→n.kids.length=1)∧(9≤n.kind→n.kids.length=2)∧(1≤n.kind∧n.kind≤6→n.kids=[])∧1≤n.kind∧n.kind≤19∧leafB n=true:=by
 unfold nodeB at h
 rw [Bool.and_eq_true,Bool.or_eq_true,decide_eq_true_iff,decide_eq_true_iff] at h
 obtain ⟨h1,h2⟩:=h
 unfold armsN at h2
 split at h2
 · refine ⟨by omega,by omega,fun _ => ?_,by omega,by omega,h1⟩
   apply List.eq_nil_of_length_eq_zero
   omega
 · split at h2
   · exact ⟨by omega,by omega,by omega,by omega,by omega,h1⟩
   · split at h2
     · exact ⟨by omega,by omega,by omega,by omega,by omega,h1⟩
     · split at h2
       · exact ⟨by omega,by omega,by omega,by omega,by omega,h1⟩
       · omega
theorem kid_at {n:Nd} {j:Nat} (h:j<n.kids.length):n.kids.getD j 0∈n.kids:=by
 rw [List.getD_eq_getElem?_getD,List.getElem?_eq_getElem h];exact List.getElem_mem h
theorem shown_stab {l:List Nd} (h:treeB l=true):∀ (m f g:Nat) (i:Int),0≤i→i<l.length→i.toNat<m→i<f→i<g→shownL f l i=shownL g l i
 | 0,_,_,_,_,_,hm,_,_=>by omega
 | m + 1, f,g,i,h0,h1,hm,hf,hg=>by
   obtain ⟨f,rfl⟩:∃ f',f=f'+1:=⟨f - 1,by omega⟩
   obtain ⟨g,rfl⟩:∃ g',g=g'+1:=⟨g - 1,by omega⟩
   obtain ⟨hn,hk⟩:=tree_at h h0 h1
   have ih:∀ k∈(nodeAt l i).kids,shownL f l k=shownL g l k:=fun k hkm=>by
    have:=hk k hkm
    exact shown_stab h m f g k this.1 (by omega) (by omega) (by omega) (by omega)
   obtain ⟨a1,a2,_,_,_,_⟩:=arms_kids hn
   rw [shown_succ f l i _ rfl,shown_succ g l i _ rfl]
   by_cases k7:(nodeAt l i).kind=7
   · have:(nodeAt l i).kids.map (shownL f l)=(nodeAt l i).kids.map (shownL g l):=List.map_congr_left ih
     simp only [k7,this,reduceIte,Int.reduceEq]
   · by_cases k8:(nodeAt l i).kind=8
     · have e0:=ih _ (kid_at (j:=0) (by rw [a1 k8];omega))
       simp only [k8,e0,reduceIte,Int.reduceEq]
     · by_cases k9:9≤(nodeAt l i).kind
       · have e0:=ih _ (kid_at (j:=0) (by rw [a2 k9];omega))
         have e1:=ih _ (kid_at (j:=1) (by rw [a2 k9];omega))
         simp only [k7,if_false,e0,e1]
       · have:∀ k:Int,k≤8→k≠7→k≠8→1≤k→k=1∨k=2∨k=3∨k=4∨k=5∨k=6:=by omega
         rcases this (nodeAt l i).kind (by omega) k7 k8 (by omega) with e | e | e | e | e | e <;> simp [e]
def shN (l:List Nd) (i:Int):List Int:=shownL l.length l i
theorem shN_eq {l:List Nd} (h:treeB l=true) {i:Int} (h0:0≤i) (h1:i<l.length) (n:Nd) (hn:nodeAt l i=n):shN l i =
 if n.kind=1 then digL n.num.toNat
 else if n.kind=2 then 34 :: (dblL (sb n.text)++[34])
 else if n.kind=3 then (if n.num=1 then [84,82,85,69] else [70,65,76,83,69])
 else if n.kind=4 then [35,82,69,70,33]
 else if n.kind=5 then textL (sb n.ref.sh) n.ref.c n.ref.r n.ref.ac n.ref.ar
 else if n.kind=6 then textL (sb n.ref.sh) n.ref.c n.ref.r n.ref.ac n.ref.ar++58 :: textL (sb n.zto.sh) n.zto.c n.zto.r n.zto.ac n.zto.ar
 else if n.kind=7 then sb n.text++40 :: (joinA (n.kids.map (shN l))++[41])
 else if n.kind=8 then 45 :: inL (decide (rankL (nodeAt l (n.kids.getD 0 0)).kind<4)) (shN l (n.kids.getD 0 0))
 else inL (decide (rankL (nodeAt l (n.kids.getD 0 0)).kind<rankL n.kind)) (shN l (n.kids.getD 0 0)) ++
  (opL (n.kind - 9).toNat++inL (decide (rankL (nodeAt l (n.kids.getD 1 0)).kind≤rankL n.kind)) (shN l (n.kids.getD 1 0))):=by
 have:=shown_stab h (i.toNat+1) l.length (l.length+1) i h0 h1 (by omega) h1 (by omega)
 unfold shN
 rw [this,shown_succ l.length l i n hn]
structure Pt where
 t:ByteArray
 node:Int
 least:Int
def Pt.plain (t:ByteArray):Pt:=⟨t,0,0⟩
def Pt.op (node least:Int):Pt:=⟨⟨#[]⟩,node,least⟩
def ptL (l:List Nd) (p:Pt):List Int:=if p.t=⟨#[]⟩ then inL (decide ((rankL (nodeAt l p.node).kind:Int)+1<p.least)) (shN l p.node) else sb p.t
def PtOk (l:List Nd) (p:Pt):Prop:=p.t=⟨#[]⟩→0≤p.node∧p.node<l.length
theorem ptL_op (l:List Nd) (i m:Int):ptL l (Pt.op i m)=inL (decide ((rankL (nodeAt l i).kind:Int)+1<m)) (shN l i):=by
 unfold ptL;rw [if_pos (show (Pt.op i m).t=⟨#[]⟩ from rfl)];rfl
theorem ptL_plain (l:List Nd) (t:ByteArray) (h:t≠⟨#[]⟩):ptL l (Pt.plain t)=sb t:=by
 unfold ptL;rw [if_neg (show ¬ (Pt.plain t).t=⟨#[]⟩ from h)];rfl
theorem PtOk.plain (l:List Nd) (t:ByteArray) (h:t≠⟨#[]⟩):PtOk l (Pt.plain t):=fun e=>absurd e h
theorem PtOk.op {l:List Nd} {i:Int} (h0:0≤i) (h1:i<l.length) (m:Int):PtOk l (Pt.op i m):=fun _=>⟨h0,h1⟩
def argP:List Int→List Pt
 | []=>[]
 | [a]=>[Pt.op a 1]
 | a :: b :: ks=>Pt.op a 1 :: Pt.plain ⟨#[44]⟩ :: argP (b :: ks)
theorem inL_any (l:List Nd) (i:Int):inL (decide ((rankL (nodeAt l i).kind:Int)+1<1)) (shN l i)=shN l i:=by
 rw [decide_eq_false (by omega)];rfl
theorem argP_L (l:List Nd):∀ ks:List Int,(argP ks).flatMap (ptL l)=joinA (ks.map (shN l))
 | []=>rfl
 | [a]=>by
   show ptL l (Pt.op a 1)++[]=shN l a
   rw [List.append_nil,ptL_op,inL_any]
 | a :: b :: ks=>by
   have ih:=argP_L l (b :: ks)
   show ptL l (Pt.op a 1)++(ptL l (Pt.plain ⟨#[44]⟩)++(argP (b :: ks)).flatMap (ptL l))=shN l a++44 :: joinA ((b :: ks).map (shN l))
   rw [ih,ptL_op,inL_any,ptL_plain l _ (by decide)];rfl
def stepN (n:Nd):List Int × List Pt :=
 if n.kind=1 then (digL n.num.toNat,[])
 else if n.kind=2 then (34 :: (dblL (sb n.text)++[34]),[])
 else if n.kind=3 then ((if n.num=1 then [84,82,85,69] else [70,65,76,83,69]),[])
 else if n.kind=4 then ([35,82,69,70,33],[])
 else if n.kind=5 then (textL (sb n.ref.sh) n.ref.c n.ref.r n.ref.ac n.ref.ar,[])
 else if n.kind=6 then (textL (sb n.ref.sh) n.ref.c n.ref.r n.ref.ac n.ref.ar++58 :: textL (sb n.zto.sh) n.zto.c n.zto.r n.zto.ac n.zto.ar,[])
 else if n.kind=7 then (sb n.text++[40],argP n.kids++[Pt.plain ⟨#[41]⟩])
 else if n.kind=8 then ([45],[Pt.op (n.kids.getD 0 0) 5])
 else ([],[Pt.op (n.kids.getD 0 0) ((rankL n.kind:Int)+1),Pt.plain (opS.getD (n.kind - 9).toNat ⟨#[]⟩),Pt.op (n.kids.getD 1 0) ((rankL n.kind:Int)+2)])
theorem dec_eq {p q:Prop} [Decidable p] [Decidable q] (h:p↔q):decide p=decide q:=by rw [decide_eq_decide];exact h
theorem opS_ne:∀ o:Nat,o<11→opS.getD o ⟨#[]⟩≠⟨#[]⟩:=by decide
theorem stepN_L {l:List Nd} (h:treeB l=true) {i:Int} (h0:0≤i) (h1:i<l.length) (n:Nd) (hn:nodeAt l i=n):shN l i=(stepN n).1++(stepN n).2.flatMap (ptL l):=by
 obtain ⟨hnb, -⟩:=tree_at h h0 h1
 rw [hn] at hnb
 obtain ⟨-, -, -,b1,b2, -⟩:=arms_kids hnb
 rw [shN_eq h h0 h1 n hn]
 unfold stepN
 split
 · simp
 split
 · simp
 split
 · simp
 split
 · simp
 split
 · simp
 split
 · simp
 split
 · rw [List.flatMap_append,argP_L,List.flatMap_cons,List.flatMap_nil,ptL_plain l _ (by decide)]
   simp only [List.append_assoc,List.cons_append,List.nil_append,List.append_nil]
   rfl
 split
 · rw [List.flatMap_cons,List.flatMap_nil,ptL_op,List.append_nil,dec_eq (show (rankL (nodeAt l (n.kids.getD 0 0)).kind<4↔(rankL (nodeAt l (n.kids.getD 0 0)).kind:Int)+1<5) by omega)]
   rfl
 · have ho:(n.kind - 9).toNat<11:=by omega
   rw [List.flatMap_cons,List.flatMap_cons,List.flatMap_cons,List.flatMap_nil,ptL_op,ptL_op,ptL_plain l _ (opS_ne _ ho),(op_rank _ ho).2,List.append_nil,List.nil_append,
    dec_eq (show (rankL (nodeAt l (n.kids.getD 0 0)).kind<rankL n.kind↔(rankL (nodeAt l (n.kids.getD 0 0)).kind:Int)+1<(rankL n.kind:Int)+1) by omega),
    dec_eq (show (rankL (nodeAt l (n.kids.getD 1 0)).kind≤rankL n.kind↔(rankL (nodeAt l (n.kids.getD 1 0)).kind:Int)+1<(rankL n.kind:Int)+2) by omega)]
theorem argP_ok {l:List Nd}:∀ ks:List Int,(∀ k∈ks,0≤k∧k<(l.length:Int))→∀ p∈argP ks,PtOk l p
 | [],_,p,hp=>by simp [argP] at hp
 | [a],h,p,hp=>by
   simp [argP] at hp;subst hp
   exact PtOk.op (h a (by simp)).1 (h a (by simp)).2 1
 | a :: b :: ks,h,p,hp=>by
   simp only [argP,List.mem_cons] at hp
   rcases hp with rfl | rfl | hp
   · exact PtOk.op (h a (by simp)).1 (h a (by simp)).2 1
   · exact PtOk.plain l _ (by decide)
   · exact argP_ok (b :: ks) (fun k hk=>h k (List.mem_cons_of_mem _ hk)) p hp
theorem stepN_ok {l:List Nd} (h:treeB l=true) {i:Int} (h0:0≤i) (h1:i<l.length) (n:Nd) (hn:nodeAt l i=n):∀ p∈(stepN n).2,PtOk l p:=by
 obtain ⟨hnb,hk⟩:=tree_at h h0 h1
 rw [hn] at hnb hk
 obtain ⟨a1,a2, -,b1,b2, -⟩:=arms_kids hnb
 have hkl:∀ k∈n.kids,0≤k∧k<(l.length:Int):=fun k hkm=>by have:=hk k hkm;omega
 intro p hp
 unfold stepN at hp
 split at hp
 · simp at hp
 split at hp
 · simp at hp
 split at hp
 · simp at hp
 split at hp
 · simp at hp
 split at hp
 · simp at hp
 split at hp
 · simp at hp
 split at hp
 · rcases List.mem_append.1 hp with hp | hp
   · exact argP_ok _ hkl p hp
   · rw [List.mem_singleton.1 hp];exact PtOk.plain l _ (by decide)
 split at hp
 · rename_i k8
   rw [List.mem_singleton.1 hp]
   have:=hkl _ (kid_at (n:=n) (j:=0) (by rw [a1 k8];omega))
   exact PtOk.op this.1 this.2 5
 · have k9:9≤n.kind:=by omega
   have g0:=hkl _ (kid_at (n:=n) (j:=0) (by rw [a2 k9];omega))
   have g1:=hkl _ (kid_at (n:=n) (j:=1) (by rw [a2 k9];omega))
   simp only [List.mem_cons,List.not_mem_nil,or_false] at hp
   rcases hp with rfl | rfl | rfl
   · exact PtOk.op g0.1 g0.2 _
   · exact PtOk.plain l _ (opS_ne _ (by omega))
   · exact PtOk.op g1.1 g1.2 _
def stepP (l:List Nd) (p:Pt):List Int × List Pt :=
 if p.t=⟨#[]⟩ then (if (rankL (nodeAt l p.node).kind:Int)+1<p.least then (40 :: (stepN (nodeAt l p.node)).1,(stepN (nodeAt l p.node)).2++[Pt.plain ⟨#[41]⟩]) else stepN (nodeAt l p.node)) else (sb p.t,[])
theorem stepP_L {l:List Nd} (h:treeB l=true) (p:Pt) (hp:PtOk l p):ptL l p=(stepP l p).1++(stepP l p).2.flatMap (ptL l):=by
 rw [show ptL l p=if p.t=⟨#[]⟩ then inL (decide ((rankL (nodeAt l p.node).kind:Int)+1<p.least)) (shN l p.node) else sb p.t from rfl]
 unfold stepP
 by_cases ht:p.t=⟨#[]⟩
 · obtain ⟨h0,h1⟩:=hp ht
   rw [if_pos ht,if_pos ht,stepN_L h h0 h1 _ rfl]
   by_cases hr:(rankL (nodeAt l p.node).kind:Int)+1<p.least
   · rw [if_pos hr,decide_eq_true hr,List.flatMap_append,List.flatMap_cons,List.flatMap_nil,ptL_plain l _ (by decide)]
     show 40 :: (((stepN (nodeAt l p.node)).1++(stepN (nodeAt l p.node)).2.flatMap (ptL l))++[41])=_
     simp only [List.append_assoc,List.cons_append,List.append_nil];rfl
   · rw [if_neg hr,decide_eq_false hr];rfl
 · rw [if_neg ht,if_neg ht];simp
theorem stepP_ok {l:List Nd} (h:treeB l=true) (p:Pt) (hp:PtOk l p):∀ q∈(stepP l p).2,PtOk l q:=by
 unfold stepP
 by_cases ht:p.t=⟨#[]⟩
 · obtain ⟨h0,h1⟩:=hp ht
   rw [if_pos ht]
   have:=stepN_ok h h0 h1 _ rfl
   by_cases hr:(rankL (nodeAt l p.node).kind:Int)+1<p.least
   · rw [if_pos hr]
     intro q hq
     rcases List.mem_append.1 hq with hq | hq
     · exact this q hq
     · rw [List.mem_singleton.1 hq];exact PtOk.plain l _ (by decide)
   · rw [if_neg hr];exact this
 · rw [if_neg ht];intro q hq;simp at hq
theorem tok_word {x:Int} {l:List Int} (hall:∀ y∈x :: l,isWord y=true) (hx:isLet x=true∨x=36):tokT (x :: l++[32])=(match readS (strOfNums (x :: l)) with
 | some d=>some ({ Tk.zero with kind:=4,sh:=d.sh,c:=d.c,r:=d.r,ac:=d.ac,ar:=d.ar },(x :: l).length)
 | none=>if calledL (x :: l)=true then some ({ Tk.zero with kind:=3,text:=strOfNums (x :: l) },(x :: l).length) else none):=by
 have h1:¬ isNum x=true:=by
  rcases hx with hx | hx
  · unfold isLet at hx;unfold isNum;rw [decide_eq_true_iff] at hx ⊢;omega
  · subst hx;decide
 have h2:¬ x=34∧¬ x=35:=by
  rcases hx with hx | hx
  · unfold isLet at hx;rw [decide_eq_true_iff] at hx;omega
  · omega
 have ht:(x :: (l++[32])).takeWhile isWord=x :: l:=take_part isWord (x :: l) [32] hall (fun y hy=>by simp at hy;subst hy;decide)
 rw [List.cons_append,tokT_cons,if_neg h1,if_neg h2.1,if_neg h2.2,if_pos hx]
 unfold wordT
 rw [ht]
 rfl
def tkNum (n:Int):Tk:={ Tk.zero with kind:=1,num:=n }
def tkText (s:ByteArray):Tk:={ Tk.zero with kind:=2,text:=s }
def tkName (s:ByteArray):Tk:={ Tk.zero with kind:=3,text:=s }
def tkRef (r:Rf):Tk:={ Tk.zero with kind:=4,sh:=r.sh,c:=r.c,r:=r.r,ac:=r.ac,ar:=r.ar }
def tkSign (s:ByteArray):Tk:={ Tk.zero with kind:=5,text:=s }
def tkDead:Tk:={ Tk.zero with kind:=6 }
theorem tok_num {n:Int} (h0:0≤n) (h:n≤9223372036854775807):Tok (tkNum n):=by
 have e:txK (tkNum n)=digL n.toNat:=rfl
 refine ⟨(by simp [tkNum]), ?_,by rw [e];exact bytes_digL _⟩
 have:=tok_digits n.toNat (by omega) [32] (fun x hx=>by simp at hx;subst hx;decide)
 rw [e,this,Int.toNat_of_nonneg h0];rfl
theorem bytes_dbl:∀ l:List Int,Bytes l→Bytes (dblL l)
 | [],_=>Bytes.nil
 | x :: l,h=>by
   have ih:=bytes_dbl l (fun y hy=>h y (by simp [hy]))
   show Bytes ((if x=34 then [34,34] else [x])++dblL l)
   refine Bytes.append ?_ ih
   split
   · intro y hy;simp at hy;omega
   · intro y hy;simp at hy;subst hy;exact h y (by simp)
theorem tok_quote {s:ByteArray} (h:printB (sb s)=true):Tok (tkText s):=by
 have e:txK (tkText s)=34 :: (dblL (sb s)++[34]):=rfl
 have hb:Bytes [34]:=by intro x hx;simp at hx;omega
 refine ⟨(by simp [tkText]), ?_,by rw [e];exact Bytes.append (a:=[34]) hb ((bytes_dbl _ (sb_bd s)).append hb)⟩
 unfold printB at h
 have:=quoF_dblB (sb s) [32] (of_decide_eq_true h) (fun x hx=>by simp at hx;omega)
 rw [e,List.cons_append,tokT_cons,if_neg (by decide),if_pos rfl]
 unfold quoT
 rw [List.append_assoc,List.singleton_append,this]
 simp only [Option.map_some,Option.some.injEq,Prod.mk.injEq,str_sb,List.length_cons,List.length_append,List.length_nil]
 first
  | rfl
  | exact ⟨rfl,trivial⟩
theorem tok_name {s:ByteArray} (h:calledL (sb s)=true) (hr:(readS s).isNone=true):Tok (tkName s):=by
 have e:txK (tkName s)=sb s:=rfl
 refine ⟨(by simp [tkName]), ?_,by rw [e];exact sb_bd s⟩
 have hc:=h
 unfold calledL at hc
 rw [Bool.and_eq_true,Bool.and_eq_true,decide_eq_true_iff,decide_eq_true_iff] at hc
 obtain ⟨c1,c2,c3⟩:=hc
 have hs:=str_sb s
 rw [e]
 cases hq:sb s with
 | nil=>rw [hq] at c2;simp at c2
 | cons x l =>
   rw [hq] at c1 c3 hs h
   have hall:∀ y∈x :: l,isWord y=true:=by
    intro y hy
    have:=c1 y hy
    rw [Bool.or_eq_true] at this
    rcases this with g | g
    · exact word_cap g
    · exact word_num g
   have hx:isLet x=true:=by
    have hx:isCap x=true:=by simpa using c3
    unfold isCap at hx;unfold isLet;rw [decide_eq_true_iff] at hx ⊢;omega
   rw [tok_word hall (.inl hx),hs]
   cases hd:readS s with
   | some d=>rw [hd] at hr;cases hr
   | none=>simp only;rw [if_pos h];rfl
theorem tok_ref {r:Rf} (h:mayRf r=true):Tok (tkRef r):=by
 have e:txK (tkRef r)=textL (sb r.sh) r.c r.r r.ac r.ar:=rfl
 refine ⟨(by simp [tkRef]), ?_,by rw [e];exact bytes_textL _ _ _ _ _⟩
 obtain ⟨x,l,hd,hx⟩:=textL_head (sb r.sh) r.c r.r r.ac r.ar h
 have hall:=word_textL (sb r.sh) r.c r.r r.ac r.ar h
 obtain ⟨d,hr,e1,e2,e3,e4,e5⟩:=read_text r.sh r.c r.r r.ac r.ar h
 rw [e]
 rw [hd] at hall hr ⊢
 rw [tok_word hall hx,hr]
 simp only [e1,e2,e3,e4,e5]
 rfl
def tokB (t:Tk):Bool:=match tokT (txK t++[32]) with
 | some (u,n)=>decide (n=(txK t).length)&&(decide (u.kind=t.kind∧u.text=t.text∧u.num=t.num∧u.sh=t.sh∧u.c=t.c∧u.r=t.r∧u.pos=0)&&(u.ac == t.ac&&u.ar == t.ar))
 | none=>false
theorem tok_of {t:Tk} (h:tokB t=true) (hk:t.kind≠0) (hb:Bytes (txK t)):Tok t:=by
 refine ⟨hk, ?_,hb⟩
 unfold tokB at h
 cases hq:tokT (txK t++[32]) with
 | none=>rw [hq] at h;cases h
 | some q =>
   obtain ⟨u,n⟩:=q
   rw [hq] at h
   simp only [Bool.and_eq_true,decide_eq_true_iff,beq_iff_eq] at h
   obtain ⟨h1,⟨g1,g2,g3,g4,g5,g6,g7⟩,g8,g9⟩:=h
   rw [h1]
   have:u=t.goto 0:=by
    cases u;cases t;simp only [Tk.goto] at *;subst g1 g2 g3 g4 g5 g6 g7 g8 g9;rfl
   rw [this]
def signs:List ByteArray:=[⟨#[40]⟩,⟨#[41]⟩,⟨#[44]⟩,⟨#[58]⟩]++opS
theorem signs_all:signs.all (fun s=>tokB (tkSign s)&&(txK (tkSign s)).all fun x=>decide (0≤x∧x≤255))=true:=by decide +kernel
theorem dead_all:(tokB tkDead&&(txK tkDead).all fun x=>decide (0≤x∧x≤255))=true:=by decide +kernel
theorem tok_sign {s:ByteArray} (h:s∈signs):Tok (tkSign s)∧IsS s (tkSign s):=by
 have:=List.all_eq_true.1 signs_all s h
 rw [Bool.and_eq_true] at this
 refine ⟨tok_of this.1 (by decide +revert) ?_,rfl,rfl⟩
 intro x hx
 simpa using List.all_eq_true.1 this.2 x hx
theorem tok_dead':Tok tkDead:=by
 have:=dead_all
 rw [Bool.and_eq_true] at this
 refine ⟨by decide,(tok_of this.1 (by decide) ?_).2.1, ?_⟩
 all_goals
  intro x hx
  simpa using List.all_eq_true.1 this.2 x hx
theorem noRf_is {r:Rf} (h:noRf r=true):r=Rf.zero:=by
 unfold noRf at h
 rw [Bool.and_eq_true,decide_eq_true_iff,Bool.and_eq_true] at h
 obtain ⟨⟨h1,h2,h3⟩,h4,h5⟩:=h
 cases r with
 | mk sh c r ac ar =>
   simp only at h1 h2 h3 h4 h5
   subst h1 h2 h3
   cases ac <;> cases ar <;> simp at h4 h5
   rfl
theorem leaf_facts {n:Nd} (h:leafB n=true):(n.kind=1∨n.kind=3∨n.num=0)∧(n.kind=2∨n.kind=7∨n.text=⟨#[]⟩)∧(n.kind=5∨n.kind=6∨n.ref=Rf.zero)∧(n.kind=6∨n.zto=Rf.zero) ∧
 (if n.kind=1 then decide (0≤n.num)
   else if n.kind=3 then decide (n.num=0∨n.num=1)
   else if n.kind=2 then printB (sb n.text)
   else if n.kind=7 then callB n.text
   else if n.kind=5 then mayRf n.ref
   else if n.kind=6 then mayRf n.ref&&(mayRf n.zto&&spanB n.ref n.zto)
   else true)=true:=by
 unfold leafB at h
 by_cases c:(n.kind≠1∧n.kind≠3∧n.num≠0)∨(n.kind≠2∧n.kind≠7∧n.text≠⟨#[]⟩)∨(n.kind≠5∧n.kind≠6∧noRf n.ref=false)∨(n.kind≠6∧noRf n.zto=false)
 · rw [if_pos c] at h;cases h
 · rw [if_neg c] at h
   refine ⟨?_, ?_, ?_, ?_,h⟩
   · apply Decidable.byContradiction;intro d;exact c (.inl ⟨fun e=>d (.inl e),fun e=>d (.inr (.inl e)),fun e=>d (.inr (.inr e))⟩)
   · by_cases d1:n.kind=2
     · exact .inl d1
     · by_cases d2:n.kind=7
       · exact .inr (.inl d2)
       · by_cases d3:n.text=⟨#[]⟩
         · exact .inr (.inr d3)
         · exact absurd (.inr (.inl ⟨d1,d2,d3⟩)) c
   · by_cases d1:n.kind=5
     · exact .inl d1
     · by_cases d2:n.kind=6
       · exact .inr (.inl d2)
       · cases d3:noRf n.ref with
         | true=>exact .inr (.inr (noRf_is d3))
         | false=>exact absurd (.inr (.inr (.inl ⟨d1,d2,d3⟩))) c
   · by_cases d2:n.kind=6
     · exact .inl d2
     · cases d3:noRf n.zto with
       | true=>exact .inr (noRf_is d3)
       | false=>exact absurd (.inr (.inr (.inr ⟨d2,d3⟩))) c
theorem leaf_tok {n:Nd} (h:leafB n=true) (h1:1≤n.kind) (h2:n.kind≤6) (hk:n.kids=[]) (hm:n.num≤9223372036854775807):∃ ts,LeafS ts n∧∀ t∈ts,Tok t:=by
 obtain ⟨f1,f2,f3,f4,f5⟩:=leaf_facts h
 cases n with
 | mk kind num text ref zto kids =>
   simp only at f1 f2 f3 f4 f5 h1 h2 hk hm
   subst hk
   by_cases c1:kind=1
   · subst c1
     rw [if_pos rfl] at f5
     obtain rfl:=(f2.resolve_left (by omega)).resolve_left (by omega)
     obtain rfl:=(f3.resolve_left (by omega)).resolve_left (by omega)
     obtain rfl:=f4.resolve_left (by omega)
     exact ⟨[tkNum num],.num (tkNum num) rfl,by intro t ht;simp at ht;subst ht;exact tok_num (of_decide_eq_true f5) hm⟩
   · rw [if_neg c1] at f5
     by_cases c3:kind=3
     · subst c3
       rw [if_pos rfl] at f5
       obtain rfl:=(f2.resolve_left (by omega)).resolve_left (by omega)
       obtain rfl:=(f3.resolve_left (by omega)).resolve_left (by omega)
       obtain rfl:=f4.resolve_left (by omega)
       have hw:∀ s:ByteArray,s=⟨#[84,82,85,69]⟩∨s=⟨#[70,65,76,83,69]⟩→Tok (tkName s):=by
        intro s hs
        rcases hs with rfl | rfl
        · exact tok_name (by decide +kernel) (by decide +kernel)
        · exact tok_name (by decide +kernel) (by decide +kernel)
       rcases of_decide_eq_true f5 with rfl | rfl
       · exact ⟨[tkName ⟨#[70,65,76,83,69]⟩],.no (tkName _) rfl rfl,by intro t ht;simp at ht;subst ht;exact hw _ (.inr rfl)⟩
       · exact ⟨[tkName ⟨#[84,82,85,69]⟩],.yes (tkName _) rfl rfl,by intro t ht;simp at ht;subst ht;exact hw _ (.inl rfl)⟩
     · rw [if_neg c3] at f5
       obtain rfl:=(f1.resolve_left c1).resolve_left c3
       by_cases c2:kind=2
       · subst c2
         rw [if_pos rfl] at f5
         obtain rfl:=(f3.resolve_left (by omega)).resolve_left (by omega)
         obtain rfl:=f4.resolve_left (by omega)
         exact ⟨[tkText text],.text (tkText text) rfl,by intro t ht;simp at ht;subst ht;exact tok_quote f5⟩
       · rw [if_neg c2,if_neg (by omega)] at f5
         obtain rfl:=(f2.resolve_left c2).resolve_left (by omega)
         by_cases c5:kind=5
         · subst c5
           rw [if_pos rfl] at f5
           obtain rfl:=f4.resolve_left (by omega)
           exact ⟨[tkRef ref],.ref (tkRef ref) rfl,by intro t ht;simp at ht;subst ht;exact tok_ref f5⟩
         · rw [if_neg c5] at f5
           by_cases c6:kind=6
           · subst c6
             rw [if_pos rfl,Bool.and_eq_true,Bool.and_eq_true] at f5
             obtain ⟨g,gs⟩:=tok_sign (s:=⟨#[58]⟩) (by simp [signs,opS])
             refine ⟨[tkRef ref,tkSign ⟨#[58]⟩,tkRef zto],.range (tkRef ref) _ (tkRef zto) rfl gs rfl f5.2.2, ?_⟩
             intro t ht
             simp at ht
             rcases ht with rfl | rfl | rfl
             · exact tok_ref f5.1
             · exact g
             · exact tok_ref f5.2.1
           · obtain rfl:kind=4:=by omega
             obtain rfl:=(f3.resolve_left (by omega)).resolve_left (by omega)
             obtain rfl:=f4.resolve_left (by omega)
             exact ⟨[tkDead],.dead tkDead rfl,by intro t ht;simp at ht;subst ht;exact tok_dead'⟩
theorem wr_tok (n rk d:Nat) (ts:List Tk) (h:∀ t∈ts,Tok t):∃ d' ts',Wr n rk d ts d' ts'∧∀ t∈ts',Tok t:=by
 by_cases c:n≤rk
 · exact ⟨d,ts,.inl ⟨c,rfl,rfl⟩,h⟩
 · obtain ⟨g1,s1⟩:=tok_sign (s:=⟨#[40]⟩) (by simp [signs,opS])
   obtain ⟨g2,s2⟩:=tok_sign (s:=⟨#[41]⟩) (by simp [signs,opS])
   refine ⟨d+1,_,.inr ⟨by omega,rfl,_,_,s1,s2,rfl⟩, ?_⟩
   intro t ht
   rcases List.mem_cons.1 ht with rfl | ht
   · exact g1
   · rcases List.mem_append.1 ht with ht | ht
     · exact h t ht
     · simp at ht;subst ht;exact g2
inductive FS:Nat→List Nd→List Int→Prop
 | nil:FS 0 [] []
 | snoc (i:Nat) (done:List Nd) (st:List Int) (h:FS i done st) (ns:List Nd) (a:Int) (ts:List Tk) (rk d:Nat) (g:Sh false i ns [a] ts rk d) (ht:∀ t∈ts,Tok t):FS (i+ns.length) (done++ns) (st++[a])
theorem FS.last {i:Nat} {all:List Nd} {st:List Int} {a:Int} (h:FS i all (st++[a])):∃ j done ns ts rk d,FS j done st∧all=done++ns∧i=j+ns.length∧Sh false j ns [a] ts rk d∧∀ t∈ts,Tok t:=by
 generalize e:st++[a]=st' at h
 cases h with
 | nil=>simp at e
 | snoc j done st0 h ns a0 ts rk d g ht =>
   obtain ⟨rfl,e2⟩:=List.append_inj' e rfl
   injection e2 with e2 _
   subst e2
   exact ⟨j,done,ns,ts,rk,d,h,rfl,rfl,g,ht⟩
theorem FS.nil_is {i:Nat} {done:List Nd} {st:List Int} (h:FS i done st) (e:st=[]):done=[]∧i=0:=by
 cases h with
 | nil=>exact ⟨rfl,rfl⟩
 | snoc=>simp at e
theorem sh_none {base:Nat} {ns:List Nd} {ks:List Int} {ts:List Tk} {rq d:Nat} (h:Sh true base ns ks ts rq d) (e:ks=[]):ns=[]∧ts=[]:=by
 cases h with
 | none=>exact ⟨rfl,rfl⟩
 | one=>cases e
 | and=>simp at e
theorem FS.many:∀ (m:Nat) (ks:List Int),ks.length=m→∀ (i:Nat) (all:List Nd) (st:List Int),FS i all (st++ks)→∃ j done ns ts d,FS j done st∧all=done++ns∧i=j+ns.length∧Sh true j ns ks ts 0 d∧∀ t∈ts,Tok t
 | 0,ks,hk,i,all,st,h=>by
   obtain rfl:=List.eq_nil_of_length_eq_zero hk
   rw [List.append_nil] at h
   exact ⟨i,all,[],[],0,h,by simp,by simp,.none i,by simp⟩
 | m + 1,ks,hk,i,all,st,h=>by
   obtain ⟨ks',b,rfl⟩:∃ ks' b,ks=ks'++[b]:=⟨ks.dropLast,ks.getLast (by rintro rfl;simp at hk),(List.dropLast_concat_getLast _).symm⟩
   rw [← List.append_assoc] at h
   obtain ⟨j,done,ns,ts,rk,d,h1,rfl,rfl,h2,h3⟩:=h.last
   obtain ⟨j',done',ns',ts',d',g1,rfl,rfl,g2,g3⟩:=FS.many m ks' (by simpa using hk) j done st h1
   by_cases c:ks'=[]
   · subst c
     obtain ⟨rfl,rfl⟩:=sh_none g2 rfl
     exact ⟨j',done',ns,ts,d,g1,by simp,by simp,.one j' ns b ts rk d (by simpa using h2),h3⟩
   · obtain ⟨gc,sc⟩:=tok_sign (s:=⟨#[44]⟩) (by simp [signs,opS])
     refine ⟨j',done',ns'++ns,_,_,g1,by rw [List.append_assoc],by rw [List.length_append,Nat.add_assoc],.and j' ns' ns ks' b ts' ts rk d' d g2 c _ sc h2, ?_⟩
     intro t ht
     rcases List.mem_append.1 ht with ht | ht
     · exact g3 t ht
     · rcases List.mem_cons.1 ht with rfl | ht
       · exact gc
       · exact h3 t ht
theorem tree_fs:∀ (ns:List Nd) (i:Nat) (done:List Nd) (st:List Int),FS i done st→treeF st i ns=true→(∀ n∈ns,n.num≤9223372036854775807)→∃ a,FS (i+ns.length) (done++ns) [a]
 | [],i,done,st,h,ht,_=>by
   have:st.length=1:=of_decide_eq_true ht
   match st,this with
   | [a],_=>exact ⟨a,by simpa using h⟩
 | n :: ns, i,done,st,h,ht,hm=>by
   rw [treeF_cons,Bool.and_eq_true,Bool.and_eq_true,Bool.and_eq_true,decide_eq_true_iff,decide_eq_true_iff] at ht
   obtain ⟨h1,h2,h3,h4⟩:=ht
   have hst:st=st.take (st.length - n.kids.length)++n.kids:=by conv=>lhs;rw [← List.take_append_drop (st.length - n.kids.length) st,h3]
   generalize st.take (st.length - n.kids.length)=st0 at hst h4
   subst hst
   unfold nodeB at h1
   rw [Bool.and_eq_true,Bool.or_eq_true,decide_eq_true_iff,decide_eq_true_iff] at h1
   obtain ⟨hl,ha⟩:=h1
   have hfs : FS (i+1) (done++[n]) (st0++[(i:Int)]):=by
    by_cases c1:1≤n.kind∧n.kind≤6
    · have hk:n.kids=[]:=by
       unfold armsN at ha;rw [if_pos c1] at ha
       exact List.eq_nil_of_length_eq_zero (by omega)
      rw [hk,List.append_nil] at h
      obtain ⟨ts,g1,g2⟩:=leaf_tok hl c1.1 c1.2 hk (hm n (by simp))
      exact .snoc i done st0 h [n] _ ts 5 0 (.leaf i ts n g1) g2
    · obtain ⟨f1,f2,f3,f4,f5⟩:=leaf_facts hl
      have e1:n.num=0:=(f1.resolve_left (by omega)).resolve_left (by omega)
      have e3:n.ref=Rf.zero:=(f3.resolve_left (by omega)).resolve_left (by omega)
      have e4:n.zto=Rf.zero:=f4.resolve_left (by omega)
      rw [if_neg (by omega),if_neg (by omega),if_neg (by omega)] at f5
      by_cases c7:n.kind=7
      · rw [if_pos c7] at f5
        unfold callB at f5
        rw [Bool.and_eq_true,Bool.and_eq_true,Bool.and_eq_true,decide_eq_true_iff,decide_eq_true_iff] at f5
        obtain ⟨j,done',ms,ts,d,g1,rfl,rfl,g2,g3⟩:=FS.many _ n.kids rfl i done st0 h
        obtain ⟨gl,sl⟩:=tok_sign (s:=⟨#[40]⟩) (by simp [signs,opS])
        obtain ⟨gr,sr⟩:=tok_sign (s:=⟨#[41]⟩) (by simp [signs,opS])
        have gn:=tok_name f5.1 f5.2.1
        have hn:n={ Nd.zero with kind:=7,text:=(tkName n.text).text,kids:=n.kids }:=by
         cases n;simp only at e1 e3 e4 c7;subst e1 e3 e4 c7;rfl
        have hsh:=Sh.call j ms n.kids ts d g2 (tkName n.text) _ _ rfl f5.2.2.1 f5.2.2.2 sl sr
        rw [← hn] at hsh
        have := FS.snoc j done' st0 g1 (ms++[n]) _ _ _ _ hsh (by
         intro t ht
         rcases List.mem_cons.1 ht with rfl | ht
         · exact gn
         · rcases List.mem_cons.1 ht with rfl | ht
           · exact gl
           · rcases List.mem_append.1 ht with ht | ht
             · exact g3 t ht
             · simp at ht;subst ht;exact gr)
        rw [List.length_append,List.length_singleton, ← Nat.add_assoc, ← List.append_assoc] at this
        exact this
      · have e2:n.text=⟨#[]⟩:=(f2.resolve_left (by omega)).resolve_left c7
        by_cases c8:n.kind=8
        · have hk:n.kids.length=1:=by
           unfold armsN at ha
           rw [if_neg c1,if_neg c7,if_pos c8] at ha;omega
          obtain ⟨b,hb⟩:∃ b,n.kids=[b]:=by
           match hq:n.kids,hk with
           | [b],_=>exact ⟨b,rfl⟩
          rw [hb] at h
          obtain ⟨j,done',ms,ts,rk',d,g1,rfl,rfl,g2,g3⟩:=h.last
          obtain ⟨d',ts',hw,g4⟩:=wr_tok 4 rk' d ts g3
          obtain ⟨gm,sm⟩:=tok_sign (s:=⟨#[45]⟩) (by simp [signs,opS])
          have hn:n={ Nd.zero with kind:=8,kids:=[b] }:=by
           cases n;simp only at e1 e2 e3 e4 c8 hb;subst e1 e2 e3 e4 c8 hb;rfl
          have hsh:=Sh.neg j ms b ts rk' d g2 _ sm d' ts' hw
          rw [← hn] at hsh
          have:=FS.snoc j done' st0 g1 (ms++[n]) _ _ _ _ hsh (by
           intro t ht
           rcases List.mem_cons.1 ht with rfl | ht
           · exact gm
           · exact g4 t ht)
          rw [List.length_append,List.length_singleton, ← Nat.add_assoc, ← List.append_assoc] at this
          exact this
        · have hk:n.kids.length=2∧9≤n.kind∧n.kind≤19:=by
           unfold armsN at ha
           rw [if_neg c1,if_neg c7,if_neg c8] at ha
           by_cases c9:9≤n.kind∧n.kind≤19
           · rw [if_pos c9] at ha;omega
           · rw [if_neg c9] at ha;omega
          obtain ⟨b,b',hb⟩:∃ b b',n.kids=[b,b']:=by
           match hq:n.kids,hk.1 with
           | [b,b'],_=>exact ⟨b,b',rfl⟩
          rw [hb,show st0++[b,b']=(st0++[b])++[b'] by simp] at h
          obtain ⟨j2,done2,ms2,ts2,rk2,d2,k1,rfl,rfl,k2,k3⟩:=h.last
          obtain ⟨j,done',ms,ts,rk',d,g1,rfl,rfl,g2,g3⟩:=k1.last
          obtain ⟨o,ho,hko⟩:∃ o:Nat,o<11∧n.kind=9+(o:Int):=⟨(n.kind - 9).toNat,by omega,by omega⟩
          obtain ⟨x1,ts',hw,g4⟩:=wr_tok (rk o) rk' d ts g3
          obtain ⟨x2,ts2',hw2,k4⟩:=wr_tok (rk o+1) rk2 d2 ts2 k3
          have hin:opS.getD o ⟨#[]⟩∈signs:=by
           have hlen:o<opS.length:=ho
           rw [List.getD_eq_getElem?_getD,List.getElem?_eq_getElem hlen,Option.getD_some]
           exact List.mem_append_right _ (List.getElem_mem _)
          obtain ⟨gm,sm⟩:=tok_sign hin
          have hn:n={ Nd.zero with kind:=9+(o:Int),kids:=[b,b'] }:=by
           cases n;simp only at e1 e2 e3 e4 hko hb;subst e1 e2 e3 e4 hko hb;rfl
          have hsh:=Sh.op j o ho ms ms2 b b' ts ts2 rk' rk2 d d2 g2 k2 _ sm x1 x2 ts' ts2' hw hw2
          rw [← hn] at hsh
          have:=FS.snoc j done' st0 g1 (ms++(ms2++[n])) _ _ _ _ hsh (by
           intro t ht
           rcases List.mem_append.1 ht with ht | ht
           · exact g4 t ht
           · rcases List.mem_cons.1 ht with rfl | ht
             · exact gm
             · exact k4 t ht)
          have e5:j+(ms++(ms2++[n])).length=j+ms.length+ms2.length+1:=by simp;omega
          have e6:done'++(ms++(ms2++[n]))=done'++ms++ms2++[n]:=by simp
          have e7:j+(ms.length+ms2.length)=j+ms.length+ms2.length:=by omega
          rw [e5,e6,e7] at this
          exact this
   obtain ⟨a,ha'⟩:=tree_fs ns (i+1) (done++[n]) _ hfs h4 (fun m hm'=>hm m (by simp [hm']))
   refine ⟨a, ?_⟩
   rw [List.append_assoc,List.singleton_append] at ha'
   rw [List.length_cons,show i+(ns.length+1)=i+1+ns.length by omega]
   exact ha'
theorem tree_sh {ns:List Nd} (h:treeB ns=true) (hm:∀ n∈ns,n.num≤9223372036854775807):∃ a ts rk d,Sh false 0 ns [a] ts rk d∧∀ t∈ts,Tok t:=by
 obtain ⟨a,ha⟩:=tree_fs ns 0 [] [] .nil h hm
 rw [List.nil_append] at ha
 obtain ⟨j,done,ms,ts,rk,d,h1,h2,h3,h4,h5⟩:=FS.last (st:=[]) ha
 obtain ⟨rfl,rfl⟩:=h1.nil_is rfl
 rw [List.nil_append] at h2
 subst h2
 exact ⟨a,ts,rk,d,h4,h5⟩
theorem tree_ne {ns:List Nd} (h:treeB ns=true) (hm:∀ n∈ns,n.num≤9223372036854775807):printL ns≠[]:=by
 obtain ⟨a,ts,rk,d,h1,h2⟩:=tree_sh h hm
 rw [sh_print h1 h]
 obtain ⟨_,⟨t,l,rfl,_⟩,_⟩:=(sh_sq h1).1 rfl
 obtain ⟨x,k,e,_⟩:=tok_head (h2 t (by simp))
 rw [txL_cons,e];simp
theorem textL_ne {sh:List Int} {c r:Int} {ac ar:Bool} (h:mayL sh c r=true):textL sh c r ac ar≠[]:=by
 unfold textL
 rw [if_pos h]
 intro e
 exact digL_ne _ (List.append_eq_nil_iff.1 e).2
theorem inL_ne {b:Bool} {t:List Int} (h:t≠[]):inL b t≠[]:=by
 unfold inL;split
 · simp
 · exact h
theorem sb_ne {t:ByteArray} (h:t≠⟨#[]⟩):sb t≠[]:=by
 intro e
 apply h
 have h1:=length_sb t
 rw [e] at h1
 have h1:t.size=0:=h1.symm
 cases t with
 | mk d =>
   have:d=#[]:=Array.eq_empty_of_size_eq_zero h1
   rw [this]
theorem opL_ne:∀ o:Nat,o<11→opL o≠[]:=by decide
theorem leaf_ref {n:Nd} (h:leafB n=true) (hk:n.kind=5):mayRf n.ref=true:=by
 unfold leafB at h
 split at h
 · cases h
 · simpa [hk] using h
theorem shN_ne {l:List Nd} (h:treeB l=true) {i:Int} (h0:0≤i) (h1:i<l.length):shN l i≠[]:=by
 obtain ⟨hnb, -⟩:=tree_at h h0 h1
 obtain ⟨-, -, -,b1,b2,hl⟩:=arms_kids hnb
 rw [shN_eq h h0 h1 _ rfl]
 split
 · exact digL_ne _
 split
 · simp
 split
 · split <;> simp
 split
 · simp
 split
 · exact textL_ne (leaf_ref hl ‹_›)
 split
 · simp
 split
 · simp
 split
 · simp
 · have:=opL_ne (((nodeAt l i).kind - 9).toNat) (by omega)
   simp [this]
theorem ptL_ne {l:List Nd} (h:treeB l=true) (p:Pt) (hp:PtOk l p):ptL l p≠[]:=by
 unfold ptL
 by_cases ht:p.t=⟨#[]⟩
 · obtain ⟨h0,h1⟩:=hp ht
   rw [if_pos ht];exact inL_ne (shN_ne h h0 h1)
 · rw [if_neg ht];exact sb_ne ht
theorem flat_len {l:List Nd} (h:treeB l=true):∀ ps:List Pt,(∀ p∈ps,PtOk l p)→ps.length≤(ps.flatMap (ptL l)).length
 | [],_=>Nat.le_refl _
 | p :: ps,hp=>by
   have ih:=flat_len h ps fun q hq=>hp q (List.mem_cons_of_mem _ hq)
   have h1:=List.length_pos_iff.2 (ptL_ne h p (hp p (by simp)))
   rw [List.flatMap_cons,List.length_append,List.length_cons];omega
theorem digL_len:∀ (k u:Nat),u<10 ^ (k+1)→(digL u).length≤k+1
 | 0,u,h=>by rw [digL_small u (by simpa using h)];simp
 | k + 1,u,h=>by
   by_cases h1:u<10
   · rw [digL_small u h1];simp
   · rw [digL_more u h1,List.length_append,List.length_singleton]
     have:=digL_len k (u / 10) (by rw [Nat.pow_succ] at h;omega)
     omega
theorem colL_len (n:Int):(colL n).length≤2:=by
 unfold colL
 split
 · simp
 · split <;> simp
theorem textL_len (sh:List Int) (c r:Int) (ac ar:Bool):(textL sh c r ac ar).length≤sh.length+8:=by
 unfold textL
 split
 · rename_i h
   unfold mayL at h
   rw [Bool.and_eq_true,decide_eq_true_iff] at h
   have h1:=digL_len 2 (r+1).toNat (by omega)
   have h2:=colL_len c
   have h3:(if sh=[] then ([]:List Int) else sh++[33]).length≤sh.length+1:=by split <;> simp
   have h4:∀ b:Bool,(if b=true then [(36:Int)] else []).length≤1:=by intro b;split <;> simp
   have h5:=h4 ac
   have h6:=h4 ar
   simp only [List.length_append]
   omega
 · simp
theorem dblL_len:∀ l:List Int,(dblL l).length≤2*l.length
 | []=>Nat.le_refl _
 | x :: l=>by
   have:=dblL_len l
   show ((if x=34 then [34,34] else [x])++dblL l).length≤_
   rw [List.length_append,List.length_cons]
   have:(if x=34 then [34,34] else [x]:List Int).length≤2:=by split <;> simp
   omega
theorem bld_info:∃ j,Tryz.prog.info? 132=some j∧j.size=2:=by
 have h:(Tryz.prog.info? 132).map (·.size)=some 2:=by kernel_rfl
 obtain ⟨j,h1,h2⟩:=Option.map_eq_some_iff.1 h
 exact ⟨j,h1,h2⟩
structure Fb (w w':World) (b:Nat):Prop where
 os:w'.os=w.os
 tape:w'.tape=w.tape
 output:w'.output=w.output
 size:w.heap.size≤w'.heap.size
 block:∀ k,k<w.heap.size→k≠b→(k<b∨∀ cur fr,w.heap[k]? ≠ some (.cells cur 5 fr))→w'.heap[k]? = w.heap[k]?
theorem Fb.refl (w:World) (b:Nat):Fb w w b:=⟨rfl,rfl,rfl,Nat.le_refl _,fun _ _ _ _=>rfl⟩
theorem Fb.trans {w w1 w2:World} {b:Nat} (h:Fb w w1 b) (k:Fb w1 w2 b):Fb w w2 b :=
 ⟨k.os.trans h.os,k.tape.trans h.tape,k.output.trans h.output,Nat.le_trans h.size k.size,fun j hj hb hr=>by
  have h1:=h.block j hj hb hr
  rw [k.block j (Nat.lt_of_lt_of_le hj h.size) hb (hr.imp id fun hn cur fr=>by rw [h1];exact hn cur fr)]
  exact h1⟩
theorem Fb.setCell {w:World} {b:Nat} (j:Nat) (v:Value):Fb w (w.setCell ⟨b,j,none⟩ v) b :=
 have h:=grownBy.setCell' (grownBy.refl' w (some b)) j v
 ⟨h.os,h.tape,h.output,h.size,fun k hk hkb _=>h.block k hk (fun e=>hkb (Option.some.inj e))⟩
theorem Fb.grown {w w':World} {b g:Nat} (h:w.grownBy w' (some g)) (hg:∃ cur fr,w.heap[g]? = some (.cells cur 5 fr)) (hb:b<g):Fb w w' b :=
 ⟨h.os,h.tape,h.output,h.size,fun k hk hkb hr=>h.block k hk (by
  intro e;injection e with e;subst e
  rcases hr with hr | hr
  · omega
  · obtain ⟨cur,fr,hx⟩:=hg;exact hr cur fr hx)⟩
theorem run_app_srcG {P:Program} {α : Type} {size t tx ty e bytes:Nat} {w:World} (EL:Elem P t e size bytes) (E:Enc α size) (base:Nat) (v:Value) (xs:List α) (hown:Own E e w base v xs)
 (x:Value) (m:Nat) (ys:List α) (hl:ys.length=m) (hs:Src P size tx x m (E.all ys) w) (hb:(xs.length+m)*bytes≤140737488355328) (hb2:xs.length+m≤maxLen) (hbase:base≤w.heap.size) :
 ∃ v' w',(Builtin.append_ #[t,tx] ty #[v,x]).run P w = .ok v' w'∧Own E e w' base v' (xs++ys)∧w.grownBy w' v.ownBlock:=by
 obtain ⟨z,hi,hz⟩:=EL.inf
 obtain ⟨i,hi1,hi2,hi3,hi4⟩:=info_parts hi
 have ht:=EL.und
 subst hi3
 subst hi4
 have hlx:=E.length_all xs
 have hly:=E.length_all ys
 rw [hl] at hly
 have hlen:(E.all (xs++ys)).length=(xs.length+m)*i.size:=by rw [E.length_all,List.length_append,hl]
 have hsmall:xs.length+m≤9223372036854775807:=by simp only [maxLen] at hb2;omega
 have grown:∀ (old:Nat),old<xs.length+m →
  Own E e (w.drew.alloc (.cells ((E.all xs++E.all ys).toArray++Builtin.zeroCells z.cells (grownCap w (xs.length+m) old e - (xs.length+m))) e)) base (.slice (some ⟨w.heap.size,0,none⟩) (xs.length+m) (grownCap w (xs.length+m) old e)) (xs++ys) ∧
  ∀ r,w.grownBy (w.drew.alloc (.cells ((E.all xs++E.all ys).toArray++Builtin.zeroCells z.cells (grownCap w (xs.length+m) old e - (xs.length+m))) e)) r:=by
  intro old ho
  have hge:=grownCap_ge w (xs.length+m) old e
  have hcm:grownCap w (xs.length+m) old e≤maxLen:=grownCap_le_maxLen w (xs.length+m) old e hb2
  refine ⟨?_,fun r=>grownBy.below' (grownBy.refl' _ _) (((Below.refl _ _).drew).alloc (Nat.le_refl _) _)⟩
  unfold Own
  rw [List.length_append,hl]
  refine ⟨hlen,.inr ⟨w.heap.size,_,_,rfl,hbase,heap_alloc_new w.drew _,hge,hcm, ?_, ?_⟩⟩
  · simp only [Array.size_append,List.size_toArray,size_zeroCells,hz,List.length_append,hlx,hly, ← Nat.add_mul]
    congr 1
    omega
  · simp only [Array.toList_append]
    rw [← E.all_append, ← hlen]
    exact List.take_left
 have h0:=hown
 rcases hown.2 with ⟨rfl,hn⟩ | ⟨g,cap,cur,rfl,hbg,hg,hnc,hcm,hcs,htake⟩
 · have hx:xs=[]:=List.eq_nil_of_length_eq_zero hn
   subst hx
   by_cases hm:m=0
   · subst hm
     have hy:ys=[]:=List.eq_nil_of_length_eq_zero hl
     subst hy
     refine ⟨.slice none 0 0,w, ?_,Own.nil E e w base,grownBy.refl' _ _⟩
     have hc:=hs.cells
     have hll:=hs.len
     have hc':(Builtin.firstCells i.size 0 x).run P w = .ok #[] w:=hc
     rcases hs.kind with ⟨e',hk⟩ | hk <;>
      simp [Builtin.append_,run_underlying ht,run_underlying hk,sizeOf,typeInfo,hi1,hll,hc']
   · have hgr:=grown 0 (by simp;omega)
     have hr:=run_append_grow_src (P:=P) w t tx ty e i z ht hi1 hi2 none 0 0 [] (by simp [Builtin.firstCells]) x m (E.all ys) hs (by omega) (by simp at hsmall;omega) (growslice_fits (by omega) (by simpa using hb))
     simp only [List.length_nil,Nat.zero_add,List.nil_append,Enc.all,List.flatMap_nil] at hgr hr ⊢
     exact ⟨_,_,hr,hgr.1,hgr.2 _⟩
 · by_cases hroom:xs.length+m≤cap
   · have hfit:xs.length*i.size+(E.all ys).length≤cur.size:=by rw [hly,hcs, ← Nat.add_mul];exact Nat.mul_le_mul_right _ hroom
     have hst:=run_storeCells_at P g (xs.length*i.size) e (E.all ys) 0 cur w hg (by omega) (E.one_all ys)
     simp only [Nat.add_zero] at hst
     refine ⟨.slice (some ⟨g,0,none⟩) (xs.length+m) cap,w.setRow g (cur.toList.take (xs.length*i.size)++E.all ys++cur.toList.drop (xs.length*i.size+(E.all ys).length)).toArray, ?_, ?_, ?_⟩
     · rcases hs.kind with ⟨e',hk⟩ | hk <;> simp [Builtin.append_,run_underlying ht,run_underlying hk,sizeOf,typeInfo,hi1,hs.len,hroom,hs.cells,Addr.add_lit,hst]
     · unfold Own
       rw [List.length_append,hl]
       refine ⟨hlen,.inr ⟨g,cap,_,rfl,hbg,setRow_heap w g cur _ e _ hg,hroom,hcm, ?_, ?_⟩⟩
       · simp only [List.size_toArray,List.length_append,List.length_take,List.length_drop,Array.length_toList]
         omega
       · rw [htake, ← hlen, ← E.all_append]
         exact List.take_left
     · exact ⟨rfl,rfl,rfl,by simp,fun k hk hne=>setRow_other w g k _ (fun e=>hne (congrArg some e))⟩
   · have hold:(Builtin.firstCells i.size xs.length (.slice (some ⟨g,0,none⟩) xs.length cap)).run P w.drew = .ok (E.all xs).toArray w.drew :=
      run_firstCells_some w.drew i.size xs.length ⟨g,0,none⟩ xs.length cap (E.all xs) hlx (World.ownsRow.cells (w:=w.drew) h0 (g:=g) rfl)
     have hgr:=grown cap (by omega)
     have hr:=run_append_grow_src (P:=P) w t tx ty e i z ht hi1 hi2 (some ⟨g,0,none⟩) xs.length cap (E.all xs) hold x m (E.all ys) hs (by omega) (by omega) (growslice_fits (by omega) hb)
     exact ⟨_,_,hr,hgr.1,hgr.2 _⟩
theorem wpList_app_srcG {P:Program} {α : Type} {size t tx e bytes:Nat} {w:World} {ops:Array Oper} {rest:List Oper} {o:Oper} {a:Act} {Q:Exit→Act→World→Prop} (EL:Elem P t e size bytes) (E:Enc α size)
 (hgd:o.guard=none) (s x:Operand) (ho:o.op = .call { callee := .builtin .append,args:=#[s,x],argTypes:=#[t,tx] }) (base:Nat) (v:Value) (xs:List α)
 (hs:a.eval s=v) (hown:Own E e w base v xs) (y:Value) (m:Nat) (ys:List α) (hx:a.eval x=y) (hl:ys.length=m) (hsrc:Src P size tx y m (E.all ys) w)
 (hb:(xs.length+m)*bytes≤140737488355328) (hb2:xs.length+m≤maxLen) (hbase:base≤w.heap.size)
 (h:∀ (v':Value) (w':World),Own E e w' base v' (xs++ys)→w.grownBy w' v.ownBlock→wpList P ops Q rest (a.put o.dst v') w'):wpList P ops Q (o :: rest) a w:=by
 obtain ⟨v',w',hrun,h2,h3⟩:=run_app_srcG (ty:=o.type) EL E base v xs hown y m ys hl hsrc hb hb2 hbase
 refine wpList_plain hgd fun _ hK => ?_
 unfold Oper.wp execOp
 simp only [ho,resolve,invoke,builtin,Sem.run_bind,Sem.run_pure,Result.andThen_ok,List.map_toArray,List.map_cons,List.map_nil,hs,hx,hrun]
 exact hK _ _ (h v' w' h2 h3)
theorem own_row8 {w:World} {b:Nat} {v:Value} {xs:List Int} (h:Own8 w b v xs) (g:Nat) (hg:v.ownBlock=some g):b≤g∧∃ cur fr,w.heap[g]? = some (.cells cur 5 fr):=by
 rcases h.2 with ⟨h1,_⟩ | ⟨g',cap',cur,h1,h2,h3,_⟩
 · rw [h1] at hg;cases hg
 · rw [h1] at hg
   have:g'=g:=Option.some.inj hg
   subst this
   exact ⟨h2,cur,_,h3⟩
theorem own_slice {α : Type} {size:Nat} {E:Enc α size} {e:TypeId} {w:World} {b:Nat} {v:Value} {xs:List α} (h:Own E e w b v xs):∃ ao n c,v = .slice ao n c:=by
 rcases h.2 with ⟨h1,_⟩ | ⟨g,cap,cur,h1,_⟩
 · exact ⟨_,_,_,h1⟩
 · exact ⟨_,_,_,h1⟩
theorem Fb.own {w w':World} {b:Nat} {v:Value} {xs:List Int} (h:Own8 w (b+1) v xs) (hg:w.grownBy w' v.ownBlock):Fb w w' b:=by
 cases hv:v.ownBlock with
 | none =>
   rw [hv] at hg
   exact ⟨hg.os,hg.tape,hg.output,hg.size,fun k hk _ _=>hg.block k hk (by simp)⟩
 | some g =>
   rw [hv] at hg
   obtain ⟨h1,h2⟩:=own_row8 h g hv
   exact Fb.grown hg h2 (by omega)
def WrAt (w:World) (b:Nat) (nv wv ad bv:Value):Prop:=w.heap[b]? = some (.cells #[nv,wv,ad,bv] 134)
section
variable {w:World} {b:Nat} {nv wv ad bv:Value}
theorem WrAt.lt (h:WrAt w b nv wv ad bv):b<w.heap.size:=(Array.getElem?_eq_some_iff.1 h).1
theorem WrAt.facts (h:WrAt w b nv wv ad bv):w.cell? ⟨b,0,none⟩=some nv∧w.cell? ⟨b,1,none⟩=some wv∧w.cell? ⟨b,2,none⟩=some ad∧w.cell? ⟨b,3,none⟩=some bv :=
 ⟨by rw [cell_of_row w b 0 _ _ _ h];rfl,by rw [cell_of_row w b 1 _ _ _ h];rfl,by rw [cell_of_row w b 2 _ _ _ h];rfl,by rw [cell_of_row w b 3 _ _ _ h];rfl⟩
theorem WrAt.frozen (h:WrAt w b nv wv ad bv) (j:Nat):w.frozen? ⟨b,j,none⟩=false:=frozen_of_row w b j _ _ h
theorem WrAt.below {w':World} {B:Nat} (h:WrAt w b nv wv ad bv) (hb:Below B w w') (hB:b<B):WrAt w' b nv wv ad bv:=by unfold WrAt;rw [hb.block b hB];exact h
theorem WrAt.put1 (h:WrAt w b nv wv ad bv) (v:Value):WrAt (w.setCell ⟨b,1,none⟩ v) b nv v ad bv:=by unfold WrAt;rw [heap_setCell_same w b 1 _ _ _ h];rfl
theorem WrAt.put2 (h:WrAt w b nv wv ad bv) (v:Value):WrAt (w.setCell ⟨b,2,none⟩ v) b nv wv v bv:=by unfold WrAt;rw [heap_setCell_same w b 2 _ _ _ h];rfl
theorem WrAt.put3 (h:WrAt w b nv wv ad bv) (v:Value):WrAt (w.setCell ⟨b,3,none⟩ v) b nv wv ad v:=by unfold WrAt;rw [heap_setCell_same w b 3 _ _ _ h];rfl
theorem WrAt.shape (h:WrAt w b nv wv ad bv):w.shape? b=some (134,4):=by
 have h':w.heap[b]? = some (.cells #[nv,wv,ad,bv] 134):=h
 simp [World.shape?,h']
end
set_option maxRecDepth 100000 in
set_option maxHeartbeats 1600000 in
theorem copy_used (w:World) (b:Nat) (h0:w.cell? ⟨b,2,none⟩=some (.pointer (some ⟨b,2,none⟩))) :
 Calls Tryz.prog 118 #[.pointer (some ⟨b,2,none⟩)] w fun e w'=>e = .returned (.tuple #[])∧w=w':=by
 obtain ⟨j,hj,_⟩:=bld_info
 go_enter Tryz.func118,Tryz.ntmps118
 go_wp2_with fail
 rw [Lib.run_neq_ptr_same w _ Tryz.underlying130 hj]
 go_wp2_with fail
 go_end0
 exact ⟨rfl,rfl⟩
set_option maxRecDepth 100000 in
set_option maxHeartbeats 1600000 in
theorem copy_fresh (w:World) (b:Nat) (nv wv bv:Value) (h:WrAt w b nv wv (.pointer none) bv) :
 Calls Tryz.prog 118 #[.pointer (some ⟨b,2,none⟩)] w fun e w'=>e = .returned (.tuple #[])∧w.setCell ⟨b,2,none⟩ (.pointer (some ⟨b,2,none⟩))=w':=by
 obtain ⟨j,hj,hjs⟩:=bld_info
 obtain ⟨-, -,h0, -⟩:=h.facts
 have hfz:=h.frozen 2
 have hsh:=h.shape
 have hlies:liesAt Tryz.prog Tryz.prog.depth 134 (4 / Tryz.prog.cellsOf 134) 2 132 1=true:=by kernel_rfl
 go_enter Tryz.func118,Tryz.ntmps118
 go_wp2_with fail
 rw [Lib.run_to_unsafe w ⟨b,2,none⟩ Tryz.underlying130 Tryz.underlying201 hj (by rw [hjs];decide) hsh (by show 2<4;omega)]
 simp only [Result.andThen]
 rw [Oper.upon_value]
 go_wp2_with fail
 rw [run_callFunc_extern Tryz.func153 (by kernel_rfl) (by kernel_rfl) (by kernel_rfl) (e:=Extern.AbiNoEscape.same) (by kernel_rfl)]
 rw [Lib.run_noEscape]
 simp only [Result.andThen]
 rw [Oper.upon_value]
 go_wp2_with fail
 rw [Lib.run_from_unsafe w ⟨b,2,none⟩ Tryz.underlying201 Tryz.underlying130 hj hsh hlies]
 simp only [Result.andThen]
 rw [Oper.upon_value]
 go_wp2_with fail
 go_end0
 exact ⟨rfl,rfl⟩
def WS (w:World) (b:Nat) (nv wv:Value) (txt:List Int):Prop:=∃ ad bv,WrAt w b nv wv ad bv∧(ad = .pointer none∨ad = .pointer (some ⟨b,2,none⟩))∧Own8 w (b+1) bv txt∧Bytes txt
theorem WS.lt {w:World} {b:Nat} {nv wv:Value} {txt:List Int} (h:WS w b nv wv txt):b<w.heap.size:=by obtain ⟨_,_,h,_⟩:=h;exact h.lt
theorem WS.below {w w':World} {b:Nat} {nv wv:Value} {txt:List Int} (h:WS w b nv wv txt) (hb:Below w.heap.size w w'):WS w' b nv wv txt:=by
 have hl:=h.lt
 obtain ⟨ad,bv,h1,h2,h3,h4⟩:=h;exact ⟨ad,bv,h1.below hb hl,h2,h3.below hb (Nat.le_refl _),h4⟩
set_option maxRecDepth 100000 in
set_option maxHeartbeats 1600000 in
theorem write_any (w:World) (b:Nat) (nv wv:Value) (txt:List Int) (s:ByteArray) (h:WS w b nv wv txt) (hlen:txt.length+s.size≤10000000000) :
 Calls Tryz.prog 86 #[.pointer (some ⟨b,2,none⟩),.string s] w fun e w'=>(∃ x,e = .returned (.tuple #[x,.nilIface]))∧WS w' b nv wv (txt++sb s)∧Fb w w' b:=by
 have step:∀ (ad bv:Value) (wc:World),WrAt wc b nv wv ad bv→Own8 wc (b+1) bv txt→∀ (v':Value) (w1:World),Own8 w1 (b+1) v' (txt++sb s)→wc.grownBy w1 bv.ownBlock→WrAt w1 b nv wv ad bv∧Fb wc w1 b:=by
  intro ad bv wc h1 h2 v' w1 _ hg
  have hf:=Fb.own h2 hg
  refine ⟨?_,hf⟩
  unfold WrAt
  rw [hg.block b h1.lt (fun e=>by have:=own_row8 h2 b e.symm;omega)];exact h1
 have HST:=Lib.hid step
 have hsm:s.size≤10000000000:=by omega
 obtain ⟨ad,bv,hw,had,ho,hby⟩:=h
 have HBY:=Lib.hid (hby.append (sb_bd s))
 clear hby
 clear step
 rcases had with rfl | rfl
 · have HCP:=Lib.hid (copy_fresh w b nv wv bv hw)
   have HW:=Lib.hid (hw.put2 (.pointer (some ⟨b,2,none⟩)))
   have HO:=Lib.hid (Own.other ho (grownBy.setCell' (grownBy.refl' w (some b)) 2 (.pointer (some ⟨b,2,none⟩))) (Nat.lt_succ_self b):Own8 (w.setCell ⟨b,2,none⟩ (.pointer (some ⟨b,2,none⟩))) (b+1) bv txt)
   have HF:=Lib.hid (Fb.setCell (w:=w) (b:=b) 2 (.pointer (some ⟨b,2,none⟩)))
   clear hw ho
   go_enter Tryz.func86,Tryz.ntmps86
   go_upto_region 2 with (go_at_call 118;((with_reducible refine HCP.out.mono ?_);rintro e w1 ⟨rfl,rfl⟩))
   generalize w.setCell ⟨b,2,none⟩ (.pointer (some ⟨b,2,none⟩))=w1 at HW HO HF ⊢
   obtain ⟨c0,c1,c2,c3⟩:=HW.out.facts
   have hbz:=HW.out.lt
   go_wp2_with (at_builtin;refine wpList_app_srcG Elem.u8 (encInt .u8) rfl (.tmp 12) (.tmp 13) rfl (b+1) _ _ rfl HO.out (.string s) s.size (sb s) rfl (length_sb s) (src_text s) ?_ ?_ ?_ ?_;omega;(unfold maxLen;omega);omega;intro v3 w3 h1 h2;obtain ⟨ao3,n3,c3',hv3⟩:=own_slice h1;subst hv3;obtain ⟨h3,h4⟩:=HST.out _ _ _ HW.out HO.out _ w3 h1 h2;have f3:=h3.frozen 3;obtain ⟨y0,y1,y2,y3⟩:=h3.facts;have HW3:=Lib.hid (h3.put3 (.slice ao3 n3 c3'));have HF3:=Lib.hid ((HF.out.trans h4).trans (Fb.setCell 3 (.slice ao3 n3 c3')));have HO3:=Lib.hid (Own.other h1 (grownBy.setCell' (grownBy.refl' w3 (some b)) 3 (.slice ao3 n3 c3')) (Nat.lt_succ_self b):Own8 (w3.setCell ⟨b,3,none⟩ (.slice ao3 n3 c3')) (b+1) (.slice ao3 n3 c3') (txt++sb s));clear h1 h2 h3 h4 c0 c1 c2 c3)
   go_ret2
   exact ⟨⟨_,rfl⟩,⟨_,_,HW3.out,.inr rfl,HO3.out,HBY.out⟩,HF3.out⟩
 · have HCP:=Lib.hid (copy_used w b hw.facts.2.2.1)
   have HW:=Lib.hid hw
   have HO:=Lib.hid ho
   have HF:=Lib.hid (Fb.refl w b)
   clear hw ho
   go_enter Tryz.func86,Tryz.ntmps86
   go_upto_region 2 with (go_at_call 118;((with_reducible refine HCP.out.mono ?_);rintro e w1 ⟨rfl,rfl⟩))
   obtain ⟨c0,c1,c2,c3⟩:=HW.out.facts
   have hbz:=HW.out.lt
   go_wp2_with (at_builtin;refine wpList_app_srcG Elem.u8 (encInt .u8) rfl (.tmp 12) (.tmp 13) rfl (b+1) _ _ rfl HO.out (.string s) s.size (sb s) rfl (length_sb s) (src_text s) ?_ ?_ ?_ ?_;omega;(unfold maxLen;omega);omega;intro v3 w3 h1 h2;obtain ⟨ao3,n3,c3',hv3⟩:=own_slice h1;subst hv3;obtain ⟨h3,h4⟩:=HST.out _ _ _ HW.out HO.out _ w3 h1 h2;have f3:=h3.frozen 3;obtain ⟨y0,y1,y2,y3⟩:=h3.facts;have HW3:=Lib.hid (h3.put3 (.slice ao3 n3 c3'));have HF3:=Lib.hid ((HF.out.trans h4).trans (Fb.setCell 3 (.slice ao3 n3 c3')));have HO3:=Lib.hid (Own.other h1 (grownBy.setCell' (grownBy.refl' w3 (some b)) 3 (.slice ao3 n3 c3')) (Nat.lt_succ_self b):Own8 (w3.setCell ⟨b,3,none⟩ (.slice ao3 n3 c3')) (b+1) (.slice ao3 n3 c3') (txt++sb s));clear h1 h2 h3 h4 c0 c1 c2 c3)
   go_ret2
   exact ⟨⟨_,rfl⟩,⟨_,_,HW3.out,.inr rfl,HO3.out,HBY.out⟩,HF3.out⟩
theorem cells_byte:Tryz.prog.cellsOf 5=1:=by kernel_rfl
theorem sb_list (s:ByteArray):sb s=s.data.toList.map fun x=>(x.toNat:Int):=rfl
set_option maxRecDepth 100000 in
set_option maxHeartbeats 2000000 in
theorem string_any (w:World) (b:Nat) (nv wv:Value) (txt:List Int) (h:WS w b nv wv txt) (hne:txt≠[]) :
 Calls Tryz.prog 65 #[.pointer (some ⟨b,2,none⟩)] w fun e w'=>e = .returned (.string (strOfNums txt))∧Below (b+1) w w':=by
 obtain ⟨ad,bv,hw, -,ho,hby⟩:=h
 obtain ⟨s,hs⟩:∃ s,strOfNums txt=s:=⟨_,rfl⟩
 have hsb:sb s=txt:=by rw [← hs];exact sb_str txt hby
 rw [hs]
 obtain ⟨l,hl⟩:∃ l,s.data.toList=l:=⟨_,rfl⟩
 have hls:(⟨l.toArray⟩:ByteArray)=s:=by rw [← hl]
 have htx:txt=l.map fun x=>(x.toNat:Int):=by rw [← hsb,sb_list,hl]
 have hl0:l≠[]:=fun e=>hne (by rw [htx,e];rfl)
 have hlen:txt.length=l.length:=by rw [htx,List.length_map]
 obtain ⟨g,cap,cur,rfl,hbg,hg,hnc,hcm,hcs,htake⟩:=ho.2.resolve_left (fun h=>hl0 (List.length_eq_zero_iff.1 (by rw [← hlen];exact h.2)))
 have hlp:0<l.length:=List.length_pos_iff.2 hl0
 have HO:=ho
 rw [hlen] at hnc hw
 have c3:w.cell? ⟨b,3,none⟩=some (.slice (some ⟨g,0,none⟩) l.length cap):=hw.facts.2.2.2
 have hSD:(Builtin.unsafeSliceData_ #[38] 168 #[.slice (some ⟨g,0,none⟩) l.length cap]).run Tryz.prog w.drew = .ok (.pointer (some ⟨g,0,none⟩)) w.drew :=
  Lib.run_unsafeSliceData_row _ _ _ _ _ _ (by omega)
 have hUS:(Builtin.unsafeString_ #[168,3] 9 #[.pointer (some ⟨g,0,none⟩),.int .i64 l.length]).run Tryz.prog w.drew = .ok (.string s) (w.drew.freeze ⟨g,0,none⟩ l.length):=by
  rw [← hls]
  refine Lib.run_unsafeString_row w.drew 168 3 9 5 Tryz.underlying168 cells_byte g cur.size (by have hg':w.drew.heap[g]? = some (.cells cur 5):=hg;simp [World.shape?,hg']) l hl0 (by omega) (by unfold maxLen at hcm;omega) ?_
  intro j x hx
  have h1:(txt.map fun y=>Value.int .u8 y)[j]? = some (.int .u8 (x.toNat:Int)):=by rw [htx,List.map_map,List.getElem?_map,hx];rfl
  have h2:((encInt .u8).all txt)[j]? = some (.int .u8 (x.toNat:Int)):=by rw [all_encInt];exact h1
  have:=Own.cells HO j _ h2
  simpa [Addr.add_mid] using this
 clear HO ho hby htake hcs htx hsb hl hls hs
 go_enter Tryz.func65,Tryz.ntmps65
 go_wp2_with fail
 go_region
 all_goals (go_wp2_with fail;go_ret;exact ⟨rfl,Lib.below_freeze (Below.drew (Below.refl (b+1) w)) (p:=⟨g,0,none⟩) hbg _⟩)
end Go.Proofs.YtnahgpjglooclaaGreatDoor
