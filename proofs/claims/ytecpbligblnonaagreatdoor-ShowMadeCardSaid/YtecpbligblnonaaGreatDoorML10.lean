/-
 Texts of layers, put together.
-/
import Derived.Test.YtecpbligblnonaaGreatDoorML9
import Derived.OpenShut
import Derived.ProofKit
import Derived.Deep.DeepHandedRow
import Derived.Lib.LaidTab
import Derived.Test.YtecpbligblnonaaGreatDoorCards
import Derived.Test.YtecpbligblnonaaGreatDoorTie
import Derived.Shelf.Vars
import Derived.Deep.Strs
import Derived.Stop.LaidErr
import Derived.Lay
namespace Go.Proofs.YtecpbligblnonaaGreatDoor
open Go.ChangeShapes Go.WideShapes Go.ChangeAt Go.RowKit
theorem cells_u8:Tryz.prog.cellsOf 5=1:=by kernel_rfl
set_option maxRecDepth 100000 in
theorem open_s8 {H:Type} {enc:TypeId × Value→H} {W:World} {base:Nat} {v:Value} {d:DataW H} {p:List MemPlace} (hval:Value.okWide Tryz.prog W .any base 22 v) (h:DataW.Trod enc Tryz.prog W 0 (fun _=>true) true 22 v d p) :
 ∃ A len cap xs,v = .slice A len cap∧S8 W W.heap.size A len cap xs:=by
 obtain ⟨A,len,cap,rfl⟩:=okWide_slice Tryz.underlying22 hval
 obtain ⟨fuel,hf⟩:=h
 rcases open_ints Tryz.underlying22 Tryz.underlying5 cells_u8 hf with ⟨hcs,_⟩ | ⟨a,len',cap',zs,hcs,_,hl,hm,hz,_,hcell,hwz⟩
 · simp [Value.cells] at hcs
   obtain ⟨rfl,rfl,rfl⟩:=hcs
   exact ⟨none,0,0,[],rfl,rfl,Nat.le_refl _,by unfold maxLen;omega,Bytes.nil,.inl rfl⟩
 · simp [Value.cells] at hcs
   obtain ⟨rfl,rfl,rfl⟩:=hcs
   simp only [if_true] at hz
   have hb:Bytes zs:=fun n hn=>bounds_u8 (hwz n hn)
   by_cases h0:cap=0
   · have hl0:len=0:=by omega
     exact ⟨some a,len,cap,zs.take len,rfl,by rw [List.length_take];omega,hl,hm,hb.take _,.inl hl0⟩
   · obtain ⟨b,off,rfl,hc⟩:=ints_at hcell (by omega)
     refine ⟨some ⟨b,off,none⟩,len,cap,zs.take len,rfl,by rw [List.length_take];omega,hl,hm,hb.take _,.inr ⟨b,off,rfl,block_lt_of_cell (hc 0 (by omega)),fun j hj => ?_⟩⟩
     rw [hc j (by omega)]
     congr 2
     simp only [List.getD_eq_getElem?_getD]
     rw [List.getElem?_take_of_lt hj]
end Go.Proofs.YtecpbligblnonaaGreatDoor
namespace Go.Proofs.YtecpbligblnonaaGreatDoor
open Go.ChangeShapes Go.WideShapes Go.ChangeAt Go.RowKit
theorem trodAll_below {H:Type} {enc:TypeId × Value→H} {P:Program} (hl:laidOutB P=true) {W W':World} (hb:Below W.heap.size W W') :
 ∀ (ts:List TypeId) (vs:List Value) (ds:List (DataW H)) (p:List MemPlace),(ts.all fun t=>P.readableRec t&&decide (t<P.types.size))=true→(∀ x∈p,x.block<W.heap.size) →
   DataW.TrodAll enc P W 0 (fun _=>true) true ts vs ds p→DataW.TrodAll enc P W' 0 (fun b=>decide (b<W.heap.size)) true ts vs ds p:=by
 intro ts
 induction ts with
 | nil =>
   intro vs ds p _ _ h
   obtain ⟨rfl,rfl,rfl⟩:=trodAll_nil h
   exact trodAll_mk0
 | cons t ts ih =>
   intro vs ds p ht hlt h
   obtain ⟨v,vs',d,ds',p1,q1,rfl,rfl,rfl,h0,hr⟩:=trodAll_cons h
   rw [List.all_cons,Bool.and_eq_true,Bool.and_eq_true,decide_eq_true_eq] at ht
   exact trodAll_cons_mk (Below.trod hl ht.1.1 ht.1.2 h0 hb (fun x hx=>hlt x (List.mem_append_left _ hx))) (ih vs' ds' q1 ht.2 (fun x hx=>hlt x (List.mem_append_right _ hx)) hr)
theorem own:ownKnob Tryz.prog.godebug=none:=by kernel_rfl
theorem laidOut:laidOutB Tryz.prog=true:=by kernel_rfl
theorem law_post {H:Type} {enc:TypeId × Value→H} {f:Func} {s:ChangeSpec} {W W':World} {args:Array Value} {ds gs:List (DataW H)} {before:List MemPlace} (hl:laidOutB Tryz.prog=true)
 (hparams:(f.params.toList.all fun t=>Tryz.prog.readableRec t&&decide (t<Tryz.prog.types.size))=true) (hres:f.resultTypes=#[4])
 (hvars:s.vars=[]) (hfn:s.fn H (ds++gs)={ results:=[.lit (.bool true)],args:=ds })
 (hW:DataW.Whole enc Tryz.prog f.params.toList s.vars false W args.toList ds gs before) (hlt:∀ x∈before,x.block<W.heap.size) (hb:Below W.heap.size W W') :
 s.post enc Tryz.prog f false true false false W args (.bool true) W':=by
 have hW0:=hW
 obtain ⟨p,q,hA,hV,rfl,_,_⟩:=hW
 refine ⟨ds,gs,p++q,[],p,[],hW0, ?_, ?_, ?_,hb.frame _,fun h=>by cases h⟩
 · rw [hfn,hres]
   exact trodAll_cons_mk (shut_bool Tryz.underlying4 true) trodAll_mk0
 · rw [hfn]
   exact trodAll_below hl hb _ _ _ _ hparams (fun x hx=>hlt x (List.mem_append_left _ hx)) hA
 · rw [hvars,hfn];rfl
end Go.Proofs.YtecpbligblnonaaGreatDoor
namespace Go.Proofs.YtecpbligblnonaaGreatDoor
open Go.ChangeShapes Go.WideShapes Go.ChangeAt Go.RowKit
def textData {H:Type} (bs:List (List UInt8)):DataW H := .agg (bs.map fun b => .lit (.string b))
theorem cells_of_texts {H:Type} {enc:TypeId × Value→H} {P:Program} {w:World} {base:Nat} {sp:Nat→Bool} {held:Bool} {fuel:Nat} {t e:TypeId} {n:Nat} {cs:List Value} {bs:List (List UInt8)} {p:List MemPlace}
 (ht:P.underlying t=some (.array n e)) (he:P.underlying e=some .string) (hce:P.cellsOf e=1) (hct:P.cellsOf t=n)
 (h:DataW.trod enc P w base sp held fuel t cs=some (textData bs,p)):cs=bs.map fun b=>Value.string ⟨b.toArray⟩:=by
 cases fuel with
 | zero=>simp [DataW.trod] at h
 | succ fuel =>
   simp only [DataW.trod,ht,hce,hct,Nat.mul_one] at h
   split at h
   · rename_i hl
     obtain ⟨xs,hm,hx⟩:=Option.map_eq_some_iff.1 h
     have hxs:xs.map (·.1)=bs.map fun b=>(DataW.lit (.string b):DataW H):=by
      have:=congrArg Prod.fst hx
      simpa [textData] using this
     have hxl:xs.length=n:=by simpa using Lib.mapM_length hm
     have hzl:bs.length=n:=by
      have:=congrArg List.length hxs
      simp at this
      omega
     apply List.ext_getElem?
     intro i
     by_cases hi:i<n
     · obtain ⟨b,hb,hf⟩:=Lib.mapM_at hm i i (by simp [hi])
       obtain ⟨z,hc,rfl,_⟩:=DataW.trod_string he hf
       have h1:cs[i]? = some (.string z):=by
        have:=congrArg (·[0]?) hc
        simpa [List.getElem?_take,List.getElem?_drop] using this
       have h2:(xs.map (·.1))[i]? = some (DataW.lit (.string z.data.toList):DataW H):=by simp [hb]
       rw [hxs] at h2
       simp only [List.getElem?_map,Option.map_eq_some_iff,DataW.lit.injEq,Lit.string.injEq] at h2
       obtain ⟨z',hz',e⟩:=h2
       simp only [h1,List.getElem?_map,hz',Option.map_some,e]
     · rw [List.getElem?_eq_none (by omega),List.getElem?_eq_none (by simp;omega)]
   · cases h
def laidList : List (String × DataW Unit) := [("math/bits.deBruijn32tab", Rows.laid_math_bits_deBruijn32tab), ("math/bits.deBruijn64tab", Rows.laid_math_bits_deBruijn64tab), ("internal/strconv.uint64pow10", Rows.laid_internal_strconv_uint64pow10), ("unicode/utf8.acceptRanges", Rows.laid_unicode_utf8_acceptRanges), ("strconv.ErrRange", Rows.laid_strconv_ErrRange), ("strconv.ErrSyntax", Rows.laid_strconv_ErrSyntax), ("chequer/lex.signs", Rows.laid_chequer_lex_signs), ("chequer/parse.operators", Rows.laid_chequer_parse_operators), ("chequer/show.signs", Rows.laid_chequer_show_signs), ("unicode/utf8.first", Rows.laid_unicode_utf8_first)]
theorem gErr : Tryz.prog.globalNamed "strconv.ErrRange" = some 4 := by kernel_rfl
theorem gErr_t:(Tryz.prog.globals[(4:Nat)]?).map (·.type)=some 109:=by kernel_rfl
theorem gSig : Tryz.prog.globalNamed "chequer/lex.signs" = some 1 := by kernel_rfl
theorem gSig_t:(Tryz.prog.globals[(1:Nat)]?).map (·.type)=some 188:=by kernel_rfl
theorem cellsErr:Tryz.prog.cellsOf 237=1:=by kernel_rfl
theorem cellsStr:Tryz.prog.cellsOf 9=1:=by kernel_rfl
theorem cellsSig:Tryz.prog.cellsOf 188=15:=by kernel_rfl
theorem star : "*" ++ "errors.errorString" = "*errors.errorString" := by decide
theorem rowErr (u : TypeId) (h : Tryz.prog.typeName? 3 u = some "*errors.errorString") : u = 235 :=
 typeName_ptr_named (nm := "errors.errorString") (by rw [star]; kernel_rfl) (by kernel_rfl) (by decide) u (by rw [star]; exact h)
def sigBytes:List (List UInt8):=[[60,62],[60,61],[62,61],[43],[45],[42],[47],[38],[61],[60],[62],[40],[41],[44],[58]]
theorem sigData:(Rows.laid_chequer_lex_signs:DataW Unit)=textData sigBytes:=rfl
theorem sigCells:(sigBytes.map fun b=>Value.string ⟨b.toArray⟩)=sigA.toList:=rfl
theorem laidMet_tail6 {P:Program} {x:String × DataW Unit} {l:List (String × DataW Unit)} {w:World} (h:laidMet P (x :: l) w):laidMet P l w:=by
 obtain ⟨ps,h1,h2,h3⟩:=h
 obtain ⟨n,d⟩:=x
 obtain ⟨g,t,cs,fuel,p,q,_,_,_,_,hq,rfl⟩:=h1
 exact ⟨q,hq,(List.nodup_append.1 h2).2.1,fun b off hm=>h3 b off (List.mem_append_right _ hm)⟩
theorem gTab_t:(Tryz.prog.globals[5]?).map (·.type)=some 225:=by kernel_rfl
theorem cTab20:Tryz.prog.cellsOf 225=20:=by kernel_rfl
theorem cTab1:Tryz.prog.cellsOf 103=1:=by kernel_rfl
theorem tablesTab {W:World} (h:laidMetH Tryz.prog laidList W):Tab W:=by
 have h1:laidMet Tryz.prog laidList W:=h
 exact Lib.tabIs_of_head gTab gTab_t Tryz.underlying225 Tryz.underlying103 cTab1 cTab20 (laidMet_tail6 (laidMet_tail6 h1))
theorem gSho : Tryz.prog.globalNamed "chequer/show.signs" = some 0 := by kernel_rfl
theorem gSho_t:(Tryz.prog.globals[(0:Nat)]?).map (·.type)=some 179:=by kernel_rfl
theorem cellsSho:Tryz.prog.cellsOf 179=20:=by kernel_rfl
def shoBytes:List (List UInt8):=[[],[],[],[],[],[],[],[],[],[61],[60,62],[60],[60,61],[62],[62,61],[38],[43],[45],[42],[47]]
theorem shoData:(Rows.laid_chequer_show_signs:DataW Unit)=textData shoBytes:=rfl
theorem shoCells:(shoBytes.map fun b=>Value.string ⟨b.toArray⟩)=shA.toList:=rfl
theorem tablesSho {W:World} (h:laidMetH Tryz.prog laidList W):ShV W:=by
 have h1:laidMet Tryz.prog laidList W:=h
 have h6:=laidMet_tail6 (laidMet_tail6 (laidMet_tail6 (laidMet_tail6 (laidMet_tail6 (laidMet_tail6 (laidMet_tail6 (laidMet_tail6 (h1))))))))
 obtain ⟨ps,⟨g',t',cs,fuel,p,q,hg',ht',hvar,hd,_,_⟩,_⟩:=h6
 obtain rfl:=Option.some.inj (gSho.symm.trans hg')
 obtain rfl:=Option.some.inj (gSho_t.symm.trans ht')
 rw [shoData] at hd
 have hc:=cells_of_texts Tryz.underlying179 Tryz.underlying9 cellsStr cellsSho hd
 rw [shoCells] at hc
 unfold World.var? at hvar
 rw [gSho] at hvar
 simp only [Option.bind_some] at hvar
 split at hvar
 · rename_i cs' ty fr hh
   injection hvar with hvar
   subst hvar
   have:cs'=shA:=Array.toList_inj.1 hc
   exact ⟨ty,fr,by rw [← this];exact hh⟩
 · cases hvar
theorem tables {W:World} (h:laidMetH Tryz.prog laidList W):Vars W:=by
 have h1:laidMet Tryz.prog laidList W:=h
 have h4:=laidMet_tail6 (laidMet_tail6 (laidMet_tail6 (laidMet_tail6 (h1))))
 constructor
 · obtain ⟨a0,s0,hv0, -, -, -⟩:=laid_sentinel h4 gErr gErr_t Tryz.underlying109 rowErr Tryz.underlying235 Tryz.underlying237 rfl rfl Tryz.underlying9 cellsErr cellsStr
   exact ⟨_,by have h0:=World.var?_cell gErr hv0 0;simpa using h0,Or.inr ⟨_,_,rfl⟩⟩
 · have h6:=laidMet_tail6 (laidMet_tail6 h4)
   obtain ⟨ps,⟨g',t',cs,fuel,p,q,hg',ht',hvar,hd,_,_⟩,_⟩:=h6
   obtain rfl:=Option.some.inj (gSig.symm.trans hg')
   obtain rfl:=Option.some.inj (gSig_t.symm.trans ht')
   rw [sigData] at hd
   have hc:=cells_of_texts Tryz.underlying188 Tryz.underlying9 cellsStr cellsSig hd
   rw [sigCells] at hc
   unfold World.var? at hvar
   rw [gSig] at hvar
   simp only [Option.bind_some] at hvar
   split at hvar
   · rename_i cs' ty fr hh
     injection hvar with hvar
     subst hvar
     have:cs'=sigA:=Array.toList_inj.1 hc
     exact ⟨ty,fr,by rw [← this];exact hh⟩
   · cases hvar
def opC (q:ByteArray × Nat × Int):List Value:=[.string q.1,.int .i64 (q.2.1:Int),.int .i64 q.2.2]
theorem cells3:∀ (L:List (ByteArray × Nat × Int)) (cs:List Value),cs.length=L.length*3→(∀ (i:Nat) q,L[i]? = some q→(cs.drop (i*3)).take 3=opC q)→cs=L.flatMap opC
 | [],cs,h,_=>by simpa using h
 | q :: L,cs,h,hi=>by
   have h0:=hi 0 q rfl
   rw [Nat.zero_mul,List.drop_zero] at h0
   have h1:=cells3 L (cs.drop 3) (by rw [List.length_drop,h,List.length_cons];omega) (fun i q' hq=>by
    have:=hi (i+1) q' (by simpa using hq)
    rw [Nat.succ_mul] at this
    rw [List.drop_drop,Nat.add_comm 3];exact this)
   rw [List.flatMap_cons, ← h0, ← h1,List.take_append_drop]
def opData {H:Type} (q:ByteArray × Nat × Int):DataW H := .agg [.lit (.string q.1.data.toList),.lit (.int .i64 (q.2.1:Int)),.lit (.int .i64 q.2.2)]
theorem opsData:(Rows.laid_chequer_parse_operators:DataW Unit) = .agg (opL3.map opData):=rfl
theorem gOps : Tryz.prog.globalNamed "chequer/parse.operators" = some 2 := by kernel_rfl
theorem gOps_t:(Tryz.prog.globals[(2:Nat)]?).map (·.type)=some 191:=by kernel_rfl
theorem cellsOps:Tryz.prog.cellsOf 191=33:=by kernel_rfl
theorem cellsOp:Tryz.prog.cellsOf 190=3:=by kernel_rfl
set_option maxRecDepth 100000 in
theorem op_of_trod {enc:TypeId × Value→Unit} {w:World} {base:Nat} {sp:Nat→Bool} {held:Bool} {fuel:Nat} {cs:List Value} {q:ByteArray × Nat × Int} {p:List MemPlace}
 (h:DataW.trod enc Tryz.prog w base sp held fuel 190 cs=some (opData q,p)):cs=opC q:=by
 obtain ⟨y0,y1,y2,n,hx,hl,h0,h1,h2⟩:=Go.Deep.trod_struct3 Tryz.underlying190 h
 injection hx with hx _
 unfold opData at hx
 injection hx with hx
 injection hx with e0 hx;injection hx with e1 hx;injection hx with e2 _
 rw [cellsOp] at hl
 match cs,hl with
 | [c0,c1,c2],_ =>
   obtain ⟨s,g0,g0',_⟩:=DataW.trod_string Tryz.underlying9 h0
   obtain ⟨n1,g1,g1',_⟩:=DataW.trod_int Tryz.underlying3 h1
   obtain ⟨n2,g2,g2',_⟩:=DataW.trod_int Tryz.underlying3 h2
   have k0:[c0]=[Value.string s]:=g0
   have k1:[c1]=[Value.int .i64 n1]:=g1
   have k2:[c2]=[Value.int .i64 n2]:=g2
   injection k0 with k0 _;injection k1 with k1 _;injection k2 with k2 _
   rw [g0'] at e0;rw [g1'] at e1;rw [g2'] at e2
   injection e0 with e0;injection e0 with e0
   injection e1 with e1;injection e1 with _ e1
   injection e2 with e2;injection e2 with _ e2
   have es:s=q.1:=by
    cases s;cases hq:q.1
    rw [hq] at e0
    simp only at e0
    rw [Array.toList_inj.1 e0.symm]
   rw [k0,k1,k2,es, ← e1, ← e2];rfl
set_option maxRecDepth 100000 in
theorem cells_of_ops {enc:TypeId × Value→Unit} {w:World} {base:Nat} {sp:Nat→Bool} {held:Bool} {fuel:Nat} {cs:List Value} {p:List MemPlace}
 (h:DataW.trod enc Tryz.prog w base sp held fuel 191 cs=some (.agg (opL3.map opData),p)):cs=opL3.flatMap opC:=by
 obtain ⟨xs,m,_,hx,hl,hxl,hi⟩:=DataW.trod_array Tryz.underlying191 h
 injection hx with hx _
 injection hx with hx
 rw [cellsOps] at hl
 refine cells3 opL3 cs (by rw [hl];rfl) fun i q hq => ?_
 have hlt:=(List.getElem?_eq_some_iff.1 hq).1
 have hlt:i<11:=hlt
 have h1:=hi i hlt
 rw [cellsOp] at h1
 obtain ⟨y,hy⟩:∃ y,xs[i]? = some y:=⟨_,List.getElem?_eq_getElem (by omega)⟩
 rw [hy] at h1
 have h2:(xs.map (·.1))[i]? = some y.1:=by rw [List.getElem?_map,hy];rfl
 rw [← hx,List.getElem?_map,hq] at h2
 have h2:opData q=y.1:=Option.some.inj h2
 obtain ⟨y1,y2⟩:=y
 have h2:opData q=y1:=h2
 subst h2
 exact op_of_trod h1
theorem opA_list:opA.toList=opL3.flatMap opC:=rfl
theorem tablesOp {W:World} (h:laidMetH Tryz.prog laidList W):OpV W:=by
 have h1:laidMet Tryz.prog laidList W:=h
 have h4:=laidMet_tail6 (laidMet_tail6 (laidMet_tail6 (laidMet_tail6 (laidMet_tail6 (laidMet_tail6 (laidMet_tail6 (h1)))))))
 obtain ⟨ps,⟨g',t',cs,fuel,p,q,hg',ht',hvar,hd,_,_⟩,_⟩:=h4
 obtain rfl:=Option.some.inj (gOps.symm.trans hg')
 obtain rfl:=Option.some.inj (gOps_t.symm.trans ht')
 rw [opsData] at hd
 have hc:=cells_of_ops hd
 rw [← opA_list] at hc
 unfold World.var? at hvar
 rw [gOps] at hvar
 simp only [Option.bind_some] at hvar
 split at hvar
 · rename_i cs' ty fr hh
   injection hvar with hvar
   subst hvar
   have:cs'=opA:=Array.toList_inj.1 hc
   exact ⟨ty,fr,by rw [← this];exact hh⟩
 · cases hvar
theorem maxOf {W:World} (h:W.ShapedOpen Tryz.prog):MaxV W :=
 cell_of_shapedOpen_int (g:=6) (t:=3) (zero:=#[.int .i64 0]) h (of_decide_eq_true (by kernel_rfl)) (by kernel_rfl) rfl (by kernel_rfl) (by kernel_rfl) Tryz.underlying3
theorem tablesSx {W:World} (h:laidMetH Tryz.prog laidList W) (hs:W.ShapedOpen Tryz.prog):Sx W:=⟨tables h,tablesOp h,tablesTab h,maxOf hs,tablesSho h⟩
noncomputable def laidWorld (os:Os):World:=World.laidAll Tryz.prog os laidList
theorem laid_met0 (os:Os) (args:Array Value):laidMet Tryz.prog laidList ((laidWorld os).forCall (fun _ _=>0) ⟨#[],args,[]⟩).memory:=laidMet_laidAll args (by kernel_rfl) (by kernel_rfl)
end Go.Proofs.YtecpbligblnonaaGreatDoor
