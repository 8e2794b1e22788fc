/-
 Texts of layers, put together.
-/
import Derived.Test.YtnahgpjglooclaaGreatDoorDR4
import Derived.Lib.SliceRun
import Derived.Deep.OwnRows
namespace Go.Proofs.YtnahgpjglooclaaGreatDoor
open Go.RowKit
structure Iv where
 A:Option Addr
 cap:Nat
 l:List Int
def Iv.v (u:Iv):Value := .slice u.A u.l.length u.cap
def encIv:Enc Iv 1:={ f:=fun u=>[u.v],len:=fun _=>rfl,one:=fun _ u hu=>by simp at hu;subst hu;rfl }
def WbAt (w:World) (b:Nat) (x y z:Value):Prop:=w.heap[b]? = some (.cells #[x,y,z] 54)
theorem WbAt.new (w:World) (x y z:Value):WbAt (w.alloc (.cells #[x,y,z] 54)) w.heap.size x y z:=(Go.MapKept.heap_alloc w _).1
theorem WbAt.lt {w:World} {b:Nat} {x y z:Value} (h:WbAt w b x y z):b<w.heap.size:=(Array.getElem?_eq_some_iff.1 h).1
theorem WbAt.keep {w w':World} {b:Nat} {x y z:Value} (h:WbAt w b x y z) (hk:w'.heap[b]? = w.heap[b]?):WbAt w' b x y z:=by unfold WbAt;rw [hk];exact h
theorem WbAt.over {w w':World} {b:Nat} {x y z:Value} (h:WbAt w b x y z) (hb:Below w.heap.size w w'):WbAt w' b x y z:=h.keep (hb.block b h.lt)
theorem WbAt.cells {w:World} {b:Nat} {x y z:Value} (h:WbAt w b x y z):w.cell? ⟨b,0,none⟩=some x∧w.cell? ⟨b,1,none⟩=some y∧w.cell? ⟨b,2,none⟩=some z :=
 ⟨by rw [cell_of_row w b 0 _ _ _ h];rfl,by rw [cell_of_row w b 1 _ _ _ h];rfl,by rw [cell_of_row w b 2 _ _ _ h];rfl⟩
structure WbI (wm w:World) (B2 wb gu gl n:Nat) (sv:Value) (us:List Iv) (ls:List Int):Prop where
 web:WbAt w wb sv (.slice (some ⟨gu,0,none⟩) n n) (.slice (some ⟨gl,0,none⟩) n n)
 usr:RwX encIv 52 w gu us
 lck:RwX (encInt .i64) 3 w gl ls
 each:∀ u∈us,Own (encInt .i64) 3 w B2 u.v u.l
 apart:∀ (i j:Nat) (u t:Iv),i≠j→us[i]? = some u→us[j]? = some t→∀ g,u.v.ownBlock=some g→t.v.ownBlock≠some g
 aft:Below wm.heap.size wm w
 low:wm.heap.size≤wb∧wm.heap.size≤gu∧wm.heap.size≤gl∧wb<B2∧gu<B2∧gl<B2∧wb≠gu∧wb≠gl∧gu≠gl
 size:B2≤w.heap.size
 ul:us.length=n
 ll:ls.length=n
theorem WbI.next {wm w w':World} {B2 wb gu gl n:Nat} {sv:Value} {us:List Iv} {ls:List Int} (h:WbI wm w B2 wb gu gl n sv us ls) (hb:Below w.heap.size w w'):WbI wm w' B2 wb gu gl n sv us ls :=
 ⟨h.web.over hb,h.usr.keep (hb.block _ h.usr.lt),h.lck.keep (hb.block _ h.lck.lt),fun u hu=>(h.each u hu).below hb (Nat.le_refl _),h.apart,h.aft.trans (hb.mono h.aft.size),h.low,Nat.le_trans h.size hb.size,h.ul,h.ll⟩
theorem WbI.inc {wm w:World} {B2 wb gu gl n:Nat} {sv:Value} {us:List Iv} {ls:List Int} (h:WbI wm w B2 wb gu gl n sv us ls) (i:Nat) (x:Int):WbI wm (w.setCell ⟨gl,i,none⟩ (.int .i64 x)) B2 wb gu gl n sv us (ls.set i x):=by
 obtain ⟨h1,h2,h3,h4,h5,h6,h7,h8,h9⟩:=h.low
 have hk:∀ g,g≠gl→(w.setCell ⟨gl,i,none⟩ (.int .i64 x)).heap[g]? = w.heap[g]? := fun g hg=>heap_setCell_other w ⟨gl,i,none⟩ g _ hg
 exact ⟨h.web.keep (hk _ h8),h.usr.keep (hk _ h9),h.lck.set1 i x _ rfl,fun u hu=>(h.each u hu).keep fun g hl _ _=>hk g (by omega),h.apart,h.aft.setCell h3 _,h.low,by rw [World.size_setCell];exact h.size,h.ul,by rw [List.length_set];exact h.ll⟩
theorem WbI.push {wm w w':World} {B2 wb gu gl n:Nat} {sv:Value} {us:List Iv} {ls:List Int} (h:WbI wm w B2 wb gu gl n sv us ls) (k:Nat) (u t:Iv) (hk:us[k]? = some u) (ho:Own (encInt .i64) 3 w' B2 t.v t.l) (hg:w.grownBy w' u.v.ownBlock) (hn:t.v.ownBlock=u.v.ownBlock∨t.v.ownBlock=some w.heap.size) :
 WbI wm (w'.setCell ⟨gu,k,none⟩ t.v) B2 wb gu gl n sv (us.set k t) ls:=by
 obtain ⟨h1,h2,h3,h4,h5,h6,h7,h8,h9⟩:=h.low
 have hu:=h.each u (List.mem_of_getElem? hk)
 have hlow:∀ g,g<B2→w'.heap[g]? = w.heap[g]? := fun g hg2=>hg.block g (Nat.lt_of_lt_of_le hg2 h.size) fun e=>by have:=(hu.lies e.symm).1;omega
 have hset:∀ g,g≠gu→(w'.setCell ⟨gu,k,none⟩ t.v).heap[g]? = w'.heap[g]? := fun g hg2=>heap_setCell_other w' ⟨gu,k,none⟩ g _ hg2
 have hlt:∀ (j:Nat) (x:Iv),us[j]? = some x→∀ g,x.v.ownBlock=some g→g<w.heap.size:=fun j x hj g e=>by
  obtain ⟨_,cur,h3⟩:=(h.each x (List.mem_of_getElem? hj)).lies e
  exact (Array.getElem?_eq_some_iff.1 h3).1
 have hr:RwX encIv 52 w' gu us:=h.usr.keep (hlow gu h5)
 refine ⟨(h.web.keep (hlow wb h4)).keep (hset wb h7),hr.set1 k t _ rfl,(h.lck.keep (hlow gl h6)).keep (hset gl (Ne.symm h9)),fun x hx => ?_, ?_,(h.aft.grown hg h.aft.size (fun g e=>Nat.le_trans (by omega) (hu.lies e).1)).setCell h2 _,h.low,by rw [World.size_setCell];exact Nat.le_trans h.size hg.size,by rw [List.length_set];exact h.ul,h.ll⟩
 · obtain ⟨j,hj⟩:=List.getElem?_of_mem hx
   rw [List.getElem?_set] at hj
   split at hj
   · rename_i e
     split at hj
     · rw [← Option.some.inj hj]
       exact ho.keep fun g hl _ _=>hset g (by omega)
     · cases hj
   · rename_i e
     have hx2:=h.each x (List.mem_of_getElem? hj)
     have h1:Own (encInt .i64) 3 w' B2 x.v x.l:=hx2.keep fun g _ hl eg=>hg.block g hl fun e2=>h.apart k j u x e hk hj g e2.symm eg
     exact h1.keep fun g hl _ _=>hset g (by omega)
 · intro i j x y hij hi hj g hx hy
   rw [List.getElem?_set] at hi hj
   split at hi
   · rename_i e
     split at hi
     · rw [← Option.some.inj hi] at hx
       split at hj
       · rename_i e2;omega
       · rename_i e2
         rcases hn with hn | hn
         · exact h.apart k j u y e2 hk hj g (by rw [← hn];exact hx) hy
         · rw [hn] at hx
           have:=hlt j y hj g hy
           injection hx with hx;omega
     · cases hi
   · rename_i e
     split at hj
     · rename_i e2
       split at hj
       · rw [← Option.some.inj hj] at hy
         rcases hn with hn | hn
         · exact h.apart k i u x e hk hi g (by rw [← hn];exact hy) hx
         · rw [hn] at hy
           have:=hlt i x hi g hx
           injection hy with hy;omega
       · cases hj
     · exact h.apart i j x y hij hi hj g hx hy
theorem run_mkI (n:Nat) (hn:n≤1000000) (w:World):(Instr.makeSlice 52 (.int .i64 (n:Int)) (.int .i64 (n:Int))).run Tryz.prog w = .ok (.slice (some ⟨w.heap.size,0,none⟩) n n) (w.alloc (.cells (madeCells #[.int .i64 0] n) 3)) :=
 run_make_row' 52 3 (.int .i64 0) 8 Tryz.underlying52 (by kernel_rfl) rfl .i64 .i64 n (by omega) (by omega) w
theorem run_mkU (n:Nat) (hn:n≤1000000) (w:World):(Instr.makeSlice 51 (.int .i64 (n:Int)) (.int .i64 (n:Int))).run Tryz.prog w = .ok (.slice (some ⟨w.heap.size,0,none⟩) n n) (w.alloc (.cells (madeCells #[.slice none 0 0] n) 52)) :=
 run_make_row' 51 52 (.slice none 0 0) 24 Tryz.underlying51 (by kernel_rfl) rfl .i64 .i64 n (by omega) (by omega) w
theorem all_encIv (l:List Iv):encIv.all l=l.map Iv.v:=by
 induction l with
 | nil=>rfl
 | cons a t ih=>show a.v :: encIv.all t=_;rw [ih];rfl
theorem made_row (v:Value) (n:Nat):madeCells #[v] n=(List.replicate n v).toArray:=by
 apply Array.ext
 · simp [madeCells]
 · intro i h1 h2;simp [madeCells,Nat.mod_one]
def nilI:Iv:=⟨none,0,[]⟩
theorem made_I (w:World) (n:Nat):RwX (encInt .i64) 3 (w.alloc (.cells (madeCells #[.int .i64 0] n) 3)) w.heap.size (List.replicate n 0):=by
 unfold RwX
 rw [(Go.MapKept.heap_alloc w (.cells (madeCells #[.int .i64 0] n) 3)).1,made_row,all_encInt,List.map_replicate]
theorem made_U (w:World) (n:Nat):RwX encIv 52 (w.alloc (.cells (madeCells #[.slice none 0 0] n) 52)) w.heap.size (List.replicate n nilI):=by
 unfold RwX
 rw [(Go.MapKept.heap_alloc w (.cells (madeCells #[.slice none 0 0] n) 52)).1,made_row,all_encIv,List.map_replicate];rfl
theorem ShAt.growS {w w':World} {z lo:Nat} {nm:ByteArray} {c:Int} {u sv:Value} {st:List Spt} (h:ShAt w z nm c u) (ho:Own encSp 35 w lo sv st) (hg:w.grownBy w' sv.ownBlock):ShAt w' z nm c u:=by
 unfold ShAt
 rw [hg.block z h.lt (fun e=>by
  obtain ⟨_,cur,h2⟩:=ho.lies e.symm
  rw [show w.heap[z]? = _ from h] at h2
  injection h2 with h2
  injection h2 with _ h2
  exact absurd h2 (by decide))]
 exact h
def fRow (f:ByteArray→Bool) (nm:ByteArray) (i:Nat) (l:List ByteArray) (j:Nat):List Spt:=((List.range j).filter fun c=>f (l.getD c ⟨#[]⟩)).map fun c=>⟨nm,i,c⟩
def fRows (f:ByteArray→Bool) (s:Sv) (i:Nat):List Spt:=(List.range i).flatMap fun r=>fRow f s.nm r ((s.rows.map (·.l)).getD r []) ((s.rows.map (·.l)).getD r []).length
def fShs (f:ByteArray→Bool) (shs:List Sv):List Spt:=shs.flatMap fun s=>fRows f s s.rows.length
theorem fRow_succ (f:ByteArray→Bool) (nm:ByteArray) (i:Nat) (l:List ByteArray) (j:Nat) (x:ByteArray) (hx:l[j]? = some x):fRow f nm i l (j+1)=fRow f nm i l j++(if f x=true then [⟨nm,i,j⟩] else []):=by
 unfold fRow
 rw [List.range_succ,List.filter_append,List.map_append]
 congr 1
 have hg:l.getD j ⟨#[]⟩=x:=by rw [List.getD_eq_getElem?_getD,hx];rfl
 by_cases h:f x=true
 · rw [if_pos h,List.filter_cons];simp only [hg,h,if_true,List.filter_nil,List.map_cons,List.map_nil]
 · rw [if_neg h,List.filter_cons];simp only [hg,eq_false_of_ne_true h,Bool.false_eq_true,if_false,List.filter_nil,List.map_nil]
theorem fRows_succ (f:ByteArray→Bool) (s:Sv) (i:Nat) (r:Rv) (hr:s.rows[i]? = some r):fRows f s i++fRow f s.nm i r.l r.l.length=fRows f s (i+1):=by
 unfold fRows
 rw [List.range_succ,List.flatMap_append,List.flatMap_cons,List.flatMap_nil,List.append_nil]
 have hg:(s.rows.map (·.l)).getD i []=r.l:=by rw [List.getD_eq_getElem?_getD,List.getElem?_map,hr];rfl
 rw [hg]
theorem fShs_succ (f:ByteArray→Bool) (shs:List Sv) (i:Nat) (s:Sv) (hs:shs[i]? = some s):fShs f (shs.take i)++fRows f s s.rows.length=fShs f (shs.take (i+1)):=by
 unfold fShs
 rw [List.take_add_one,hs,List.flatMap_append]
 congr 1
 show _=List.flatMap _ [s]
 rw [List.flatMap_cons,List.flatMap_nil,List.append_nil]
theorem fRow_len (f:ByteArray→Bool) (nm:ByteArray) (i:Nat) (l:List ByteArray) (j:Nat):(fRow f nm i l j).length≤j:=by
 unfold fRow
 rw [List.length_map]
 have h:=List.length_filter_le (fun c:Nat=>f (l.getD c ⟨#[]⟩)) (List.range j)
 rw [List.length_range] at h;exact h
theorem fRows_len (f:ByteArray→Bool) (s:Sv) (hc:∀ r∈s.rows,r.l.length≤100):∀ i,i≤s.rows.length→(fRows f s i).length≤i*100
 | 0,_=>by simp [fRows]
 | i+1,hi=>by
   obtain ⟨r,hr⟩:∃ r,s.rows[i]? = some r:=⟨_,List.getElem?_eq_getElem (by omega)⟩
   rw [← fRows_succ f s i r hr,List.length_append]
   have h1:=fRows_len f s hc i (by omega)
   have h2:=fRow_len f s.nm i r.l r.l.length
   have h3:=hc r (List.mem_of_getElem? hr)
   omega
theorem fShs_len (f:ByteArray→Bool) (shs:List Sv) (h:∀ s∈shs,s.rows.length≤100∧∀ r∈s.rows,r.l.length≤100):∀ i,i≤shs.length→(fShs f (shs.take i)).length≤i*10000
 | 0,_=>by simp [fShs]
 | i+1,hi=>by
   obtain ⟨s,hs⟩:∃ s,shs[i]? = some s:=⟨_,List.getElem?_eq_getElem (by omega)⟩
   rw [← fShs_succ f shs i s hs,List.length_append]
   have h1:=fShs_len f shs h i (by omega)
   obtain ⟨h2,h3⟩:=h s (List.mem_of_getElem? hs)
   have h4:=fRows_len f s h3 s.rows.length (Nat.le_refl _)
   omega
def FmB (f:ByteArray→Bool) (w:World) (shs:List Sv):Prop:=∀ s∈shs,∀ r∈s.rows,∀ x∈r.l,∀ w1,Below w.heap.size w w1→Calls Tryz.prog 24 #[.string x] w1 fun e w'=>(∃ v,e = .returned (.tuple #[v,.bool (f x)]))∧Below w1.heap.size w1 w'
set_option maxRecDepth 100000 in
set_option maxHeartbeats 16000000 in
theorem formulas_any (w:World) (A:Option Addr) (n cap:Nat) (shs:List Sv) (f:ByteArray→Bool) (h:BkR w w.heap.size (.slice A n cap) shs) (hn:n≤10) (hsz:∀ s∈shs,s.rows.length≤100∧∀ r∈s.rows,r.l.length≤100) (hF:FmB f w shs) :
 Calls Tryz.prog 15 #[.agg #[.slice A n cap]] w fun e w'=>Below w.heap.size w w'∧∃ v,e = .returned v∧Own encSp 35 w' w.heap.size v (fShs f shs):=by
 have HB:=Lib.hid (below_bk w (.slice A n cap))
 have HA:=Lib.hid (BkAt.new w (.slice A n cap))
 have HX:=Lib.hid (h.lift HB.out)
 have HL:=Lib.hid h.1.len.1
 have HSZ:=Lib.hid hsz
 have HF:=Lib.hid hF
 clear h hsz hF
 go_enter Tryz.func15,Tryz.ntmps15
 go_upto_region 1 with (fail)
 obtain ⟨w1,hw1⟩:∃ w1,w.alloc (.cells #[.slice A n cap] 32)=w1:=⟨_,rfl⟩
 rw [hw1] at HB HA HX ⊢
 clear hw1
 have b0:=HA.out.cell
 go_upto_region 3 with (fail)
 clear b0
 go_loopw [3,15] (fun lv iv wr=>∃ (i:Nat) (v:Value),i≤n∧v=lv∧iv = .int .i64 (i:Int)∧Hid (Own encSp 35 wr w1.heap.size v (fShs f (shs.take i)))∧Hid (Below w1.heap.size w1 wr))
  (fun _ iv _=>n - (intOf iv).toNat)
 case atStart=>exact ⟨0,_,Nat.zero_le _,rfl,rfl,Lib.hid (Own.nil _ _ _ _),Lib.hid (Below.refl _ _)⟩
 case round =>
  obtain ⟨i,v,hi,rfl,rfl,HO,HR⟩:=hrel
  by_cases hlt:i<n
  · have hii : (i:Int)<(n:Int):=by omega
    have hi0:(0:Int)≤(i:Int):=by omega
    obtain ⟨s,hs⟩:∃ s,shs[i]? = some s:=⟨_,List.getElem?_eq_getElem (by rw [HL.out];exact hlt)⟩
    obtain ⟨pb,po,hAd,hpb,e0,e1,e2,hrow⟩:=sh_at HX.out hs
    have hms:=List.mem_of_getElem? hs
    obtain ⟨hR,hC⟩:=HSZ.out s hms
    have HNX:=Lib.hid (fShs_succ f shs i s hs)
    have HLN:=Lib.hid (fShs_len f shs HSZ.out i (by rw [HL.out];omega))
    have HRL:=Lib.hid (fRows_len f s hC)
    obtain ⟨R,hRR⟩:∃ R,s.rows.length=R:=⟨_,rfl⟩
    rw [hRR] at e2 hR hrow HNX HRL
    have HRR:=Lib.hid hRR
    have HROW:=Lib.hid hrow
    have x0:=(HR.out.cell (p:=⟨pb,po+i*3,none⟩) hpb).trans e0
    have x1:=(HR.out.cell (p:=⟨pb,po+i*3+1,none⟩) hpb).trans e1
    have x2:=(HR.out.cell (p:=⟨pb,po+i*3+2,none⟩) hpb).trans e2
    have HB3:=Lib.hid (HR.out.trans ((below_sh wr s.nm s.cols (.slice s.A R s.cap)).mono HR.out.size))
    have HS3:=Lib.hid (ShAt.new wr s.nm s.cols (.slice s.A R s.cap))
    have HO3:=Lib.hid (HO.out.below (below_sh wr s.nm s.cols (.slice s.A R s.cap)) (Nat.le_refl _))
    have HM:=Lib.hid hms;have HC:=Lib.hid hC
    rw [hAd]
    clear hs e0 e1 e2 hrow hpb hms hC hRR hAd
    go_upto_region 5 with (fail)
    clear x0 x1 x2
    generalize hz:wr.heap.size=z at HS3 ⊢
    obtain ⟨w3,hw3⟩:∃ w3,wr.alloc (.cells #[.string s.nm,.int .i64 s.cols,.slice s.A R s.cap] 24)=w3:=⟨_,rfl⟩
    rw [hw3] at HB3 HS3 HO3 ⊢
    clear hw3 hz HO HR
    obtain ⟨y0,y1,y2⟩:=HS3.out.cells
    go_wp2_with fail
    clear y0 y1 y2
    go_loopw [3,22] (fun lv rv wx=>∃ (r:Nat) (v:Value),r≤R∧v=lv∧rv = .int .i64 (r:Int)∧Hid (Own encSp 35 wx w1.heap.size v (fShs f (shs.take i)++fRows f s r))∧Hid (ShAt wx z s.nm s.cols (.slice s.A R s.cap))∧Hid (Below w1.heap.size w1 wx))
     (fun _ rv _=>R - (intOf rv).toNat)
    case atStart=>exact ⟨0,_,Nat.zero_le _,rfl,rfl,Lib.hid (by simpa [fRows] using HO3.out),HS3,HB3⟩
    case round =>
     clear HO3 HS3 HB3
     obtain ⟨r,v,hr,rfl,rfl,HO,HS,HR⟩:=hrel
     by_cases hrt:r<R
     · have hri:(r:Int)<(R:Int):=by omega
       have hr0:(0:Int)≤(r:Int):=by omega
       obtain ⟨rv,hrv⟩:∃ rv,s.rows[r]? = some rv:=⟨_,List.getElem?_eq_getElem (by rw [HRR.out];exact hrt)⟩
       obtain ⟨qb,qo,hA2,hqb,f0,hse⟩:=row_at HROW.out hrv
       have hmr:=List.mem_of_getElem? hrv
       have hc100:=HC.out rv hmr
       have HNR:=Lib.hid (fRows_succ f s r rv hrv)
       obtain ⟨C,hCC⟩:∃ C,rv.l.length=C:=⟨_,rfl⟩
       rw [hCC] at f0 hc100 hse HNR
       have HCC:=Lib.hid hCC;have HSE:=Lib.hid hse;have HMR:=Lib.hid hmr
       have f1:=(HR.out.cell (p:=⟨qb,qo+r,none⟩) hqb).trans f0
       have HRL2:=Lib.hid (HRL.out r (by omega))
       rw [hA2]
       have HA2:=Lib.hid hA2
       clear hrv hA2 hqb f0 hse hmr hCC
       go_wp2_with fail
       clear f1
       go_loopw [3,29] (fun lv cv wy=>∃ (j:Nat) (v:Value),j≤C∧v=lv∧cv = .int .i64 (j:Int)∧Hid (Own encSp 35 wy w1.heap.size v (fShs f (shs.take i)++fRows f s r++fRow f s.nm r rv.l j))∧Hid (ShAt wy z s.nm s.cols (.slice s.A R s.cap))∧Hid (Below w1.heap.size w1 wy))
        (fun _ cv _=>C - (intOf cv).toNat)
       case atStart=>exact ⟨0,_,Nat.zero_le _,rfl,rfl,Lib.hid (by simpa [fRow] using HO.out),HS,HR⟩
       case round =>
        clear HO HS HR
        obtain ⟨j,v,hj,rfl,rfl,HO,HS,HR⟩:=hrel
        by_cases hjt:j<C
        · have hji:(j:Int)<(C:Int):=by omega
          have hj0:(0:Int)≤(j:Int):=by omega
          obtain ⟨x,hx⟩:∃ x,rv.l[j]? = some x:=⟨_,List.getElem?_eq_getElem (by rw [HCC.out];exact hjt)⟩
          obtain ⟨tb,to_,hA3,htb,g0⟩:=tx_at HSE.out hx
          have g1:=(HR.out.cell (p:=⟨tb,to_+j,none⟩) htb).trans g0
          have HRS:=Lib.hid (fRow_succ f s.nm r rv.l j x hx)
          have HRL3:=Lib.hid (fRow_len f s.nm r rv.l j)
          obtain ⟨q,hq⟩:∃ q,f x=q:=⟨_,rfl⟩
          have hf:=HF.out s HM.out rv HMR.out x (List.mem_of_getElem? hx) wr (HB.out.trans (HR.out.mono HB.out.size))
          rw [hq] at hf HRS
          have HFC:=Lib.hid hf
          rw [hA3]
          clear hf hq hx g0 hA3 htb
          cases q with
          | true =>
            rw [if_pos rfl] at HRS
            go_wp2_with (first
             | (go_at_call 24;((with_reducible refine HFC.out.mono ?_);rintro e w4 ⟨⟨fv,rfl⟩,h1⟩;have HR4:=Lib.hid (HR.out.trans (h1.mono HR.out.size));have HO4:=Lib.hid (HO.out.below h1 (Nat.le_refl _));have HS4:=Lib.hid (HS.out.over h1);obtain ⟨y0,y1,y2⟩:=HS4.out.cells;clear h1 g1))
             | (at_builtin;refine wpList_app_at Elem.spt encSp rfl (.tmp 40) (.tmp 46) rfl w1.heap.size v _ rfl (HO4.out.below ((Below.refl w4.heap.size w4).alloc (Nat.le_refl _) (.cells #[.string s.nm,.int .i64 (r:Int),.int .i64 (j:Int)] 35)) (Nat.le_refl _)) ⟨_,0,none⟩ 1 1 [⟨s.nm,r,j⟩] rfl rfl ?_ ?_ ?_ ?_ ?_;exact cells_new _ _ _ rfl;(have h1:=HLN.out;have h2:=HRL2.out;have h3:=HRL3.out;rw [List.length_append,List.length_append];omega);(have h1:=HLN.out;have h2:=HRL2.out;have h3:=HRL3.out;rw [List.length_append,List.length_append];unfold maxLen;omega);(have h1:=HR4.out.size;rw [World.size_alloc];omega);intro v5 w5 h1 h2 _;have HO5:=Lib.hid h1;have HG5:=Lib.hid h2;clear h1 h2))
            have HB4:=Lib.hid ((Below.refl w4.heap.size w4).alloc (Nat.le_refl _) (.cells #[.string s.nm,.int .i64 (r:Int),.int .i64 (j:Int)] 35))
            have HO6:=Lib.hid (HO4.out.below HB4.out (Nat.le_refl _))
            have HS5:=Lib.hid ((HS4.out.over HB4.out).growS HO6.out HG5.out)
            have HR6:=HR4.out.trans (HB4.out.mono HR4.out.size)
            have HR5:=Lib.hid (HR6.grown HG5.out HR6.size (fun g e=>(HO6.out.lies e).1))
            go_roundw
            case rel=>exact ⟨j+1,_,by omega,rfl,by go_num,Lib.hid (by rw [HRS.out, ← List.append_assoc];exact HO5.out),HS5,HR5⟩
            case measure=>simp [intOf];omega
          | false =>
            rw [if_neg (by decide),List.append_nil] at HRS
            go_wp2_with (go_at_call 24;((with_reducible refine HFC.out.mono ?_);rintro e w4 ⟨⟨fv,rfl⟩,h1⟩;have HR4:=Lib.hid (HR.out.trans (h1.mono HR.out.size));have HO4:=Lib.hid (HO.out.below h1 (Nat.le_refl _));have HS4:=Lib.hid (HS.out.over h1);clear h1 g1))
            go_roundw
            case rel=>exact ⟨j+1,_,by omega,rfl,by go_num,Lib.hid (by rw [HRS.out];exact HO4.out),HS4,HR4⟩
            case measure=>simp [intOf];omega
        · have hji:¬ (j:Int)<(C:Int):=by omega
          have hjC:j=C:=by omega
          subst hjC
          go_wp2_with fail
          go_roundw
          case rel=>exact ⟨r+1,_,by omega,rfl,by go_num,Lib.hid (by rw [← HNR.out, ← List.append_assoc];exact HO.out),(by rw [← HA2.out];exact HS),HR⟩
          case measure=>simp [intOf];omega
     · have hri:¬ (r:Int)<(R:Int):=by omega
       have hrR:r=R:=by omega
       subst hrR
       go_wp2_with fail
       go_roundw
       case rel=>exact ⟨i+1,_,by omega,rfl,by go_num,Lib.hid (by rw [← HNX.out];exact HO.out),HR⟩
       case measure=>simp [intOf];omega
  · have hii:¬ (i:Int)<(n:Int):=by omega
    have HE:=Lib.hid (show shs.take i=shs from List.take_of_length_le (by rw [HL.out];omega))
    go_wp2_with fail
    go_ret
    exact ⟨HB.out.trans (HR.out.mono HB.out.size),_,rfl,by have h:=HO.out;rw [HE.out] at h;exact h.mono HB.out.size⟩
theorem wp_app_at {P:Program} {α : Type} {size t e bytes:Nat} {w:World} {o:Oper} {a:Act} {K:Act→World→Prop} {Q:Exit→Act→World→Prop} (EL:Elem P t e size bytes) (E:Enc α size)
 (s x:Operand) (ho:o.op = .call { callee := .builtin .append,args:=#[s,x],argTypes:=#[t,t] }) (base:Nat) (v:Value) (xs:List α)
 (hs:a.eval s=v) (hown:Own E e w base v xs) (ad:Addr) (m c:Nat) (ys:List α) (hx:a.eval x = .slice (some ad) m c) (hl:ys.length=m)
 (hc:∀ (j:Nat) (u:Value),(E.all ys)[j]? = some u→w.cell? (ad.add j)=some u) (hb:(xs.length+m)*bytes≤140737488355328) (hb2:xs.length+m≤maxLen) (hbase:base≤w.heap.size)
 (h:∀ (v':Value) (w':World),Own E e w' base v' (xs++ys)→w.grownBy w' v.ownBlock→(v'.ownBlock=v.ownBlock∨v'.ownBlock=some w.heap.size)→K (a.put o.dst v') w'):Oper.wp P o a w K Q:=by
 obtain ⟨z,hi,hz⟩:=EL.inf
 obtain ⟨i,hi1,hi2,hi3,hi4⟩:=info_parts hi
 obtain ⟨v',w',hrun,r1,r2,_,r4⟩:=run_append_own_at (P:=P) w base t o.type e i z size bytes EL.und hi1 hi2 hi3 hi4 hz EL.pos v xs.length (E.all xs) hown ad m c (E.all ys) (by rw [E.length_all,hl]) hc (E.one_all ys) hb2 hb hbase
 unfold Oper.wp
 simp [execOp,ho,resolve,invoke,builtin,hs,hx,hrun,Result.andThen]
 refine h v' w' ?_ r2 r4
 unfold Own;rw [E.all_append,List.length_append,hl];exact r1
theorem hP {P:Program} {md:Region.Mode} {ops:Array Oper} {Q:Exit→Act→World→Prop} {S:World→Prop} (i j:Nat) {oi oj:Oper} {d e:Option Tmp} {fuel:Nat} {listed l1 l2:Array Bool} {a:Act} {w:World}
 (h:∀ K:Act→World→Prop,Shut (∀ v w,S w→wpAnyH P md ops Q S fuel l1 (a.put d v) w→K (a.put d v) w)→Oper.wp P oi a w K Q) (h':∀ K:Act→World→Prop,Shut (∀ v w,S w→wpAnyH P md ops Q S fuel l2 (a.put e v) w→K (a.put e v) w)→Oper.wp P oj a w K Q)
 (hi:ops[i]? = some oi:=by (first | (simp only [gA,gS,gZ];done) | (simp only [gA,gS,gZ];rfl))) (hj:ops[j]? = some oj:=by (first | (simp only [gA,gS,gZ];done) | (simp only [gA,gS,gZ];rfl)))
 (hd:oi.dst=d:=by (first | (dsimp only;done) | (dsimp only;rfl) | rfl)) (he:oj.dst=e:=by (first | (dsimp only;done) | (dsimp only;rfl) | rfl)) (hr:Region.ready md ops listed=[i,j]:=by kernel_rfl)
 (hl:listed.setIfInBounds i true=l1:=by (simp only [sT,sZ,sS];rfl)) (hl':listed.setIfInBounds j true=l2:=by (simp only [sT,sZ,sS];rfl)) (hw:Region.wanted oi (yielded ops a.tmps)=true:=by rfl) (hw':Region.wanted oj (yielded ops a.tmps)=true:=by rfl):wpAnyH P md ops Q S (fuel+1) listed a w:=by
 subst hd;subst he;subst hl;subst hl'
 refine wpAnyH_ready hr (by simp) (AllReadyH.cons hi (fun K hK => ?_) (AllReadyH.cons hj (fun K hK => ?_) AllReadyH.nil))
 · rw [if_pos hw]
   exact h K (fun v w hS hW=>hK _ _ hS (fun _=>hW))
 · rw [if_pos hw']
   exact h' K (fun v w hS hW=>hK _ _ hS (fun _=>hW))
end Go.Proofs.YtnahgpjglooclaaGreatDoor
