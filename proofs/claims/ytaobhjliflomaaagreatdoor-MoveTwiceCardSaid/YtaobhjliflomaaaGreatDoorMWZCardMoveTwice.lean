/-
 'chequerlaw12.MoveTwice': for any bytes (up to 30 of them; of more the document's example alone) and any three numbers: a formula made by numbers (if it may stand in a cell and has 150 bytes at most), moved by one row put in, then by another one, is what it is moved by both at once; the document's example holds. Condition: none (the operators, the lists of signs, the library's errors and its tables start as the program's text lays them: the card ties them).
-/
import Derived.Test.YtaobhjliflomaaaGreatDoorMWCardMoveTwice1
set_option maxRecDepth 100000
set_option maxHeartbeats 64000000
namespace Go.Proofs.YtaobhjliflomaaaGreatDoor.lawMoveTwice
open Go.ChangeShapes Go.WideShapes Go.ChangeAt Go.RowKit
open Go.WideMaps Go.WideElems
open Go.ChangeMaps (open_string shut_string)
theorem Zm (H:Type)(enc:TypeId × Value→H)(W:World)(base:Nat)(args:Array Value)(ds gs:List (DataW H))(before:List MemPlace)
 (hval:∀(j:Nat) t v,Tryz.f4.params[j]? = some t→args[j]? = some v→Value.okWide Tryz.prog W .any base t v)
 (hW:DataW.Whole enc Tryz.prog Tryz.f4.params.toList Rows.moveTwiceSpec.vars false W args.toList ds gs before) (hL:laidMetH Tryz.prog Rows.moveTwiceRow.laid W) (hsh:W.ShapedOpen Tryz.prog) :
 Calls Tryz.prog 4 args W fun e W'=>∃v,e = .returned v∧Rows.moveTwiceSpec.post enc Tryz.prog Tryz.f4 false true false false W args v W':=by
 have hW':=hW;have hlt:=hW.lt;obtain⟨p,q,hA,hV,rfl,hfz,hnd⟩:=hW;rw[Tryz.params4]at hA hval;obtain⟨v0,vs0,d0,ds0,p0,q0,ajq,rfl,rfl,h0,r0⟩:=trodAll_cons hA;obtain⟨v1,vs1,d1,ds1,p1,q1,rfl,rfl,rfl,h1,r1⟩:=trodAll_cons r0;obtain⟨v2,vs2,d2,ds2,p2,q2,rfl,rfl,rfl,h2,r2⟩:=trodAll_cons r1;obtain⟨v3,vs3,d3,ds3,p3,q3,rfl,rfl,rfl,h3,r3⟩:=trodAll_cons r2;obtain⟨rfl,rfl,rfl⟩:=trodAll_nil r3;obtain rfl:args=#[v0,v1,v2,v3]:=by cases args;simp_all
 obtain⟨rfl,rfl⟩:=trodVars_none hV;obtain⟨A0,l0,c0,xs0,rfl,hs0⟩:=aep (hval 0 22 v0 rfl rfl) h0;obtain⟨n1,rfl,rfl,rfl,wn1⟩:=open_int Tryz.underlying5 (hval 1 5 v1 rfl rfl) h1;have bn1:=bounds_u8 wn1;obtain⟨m1,rfl⟩:∃m:Nat,n1=(m:Int):=⟨n1.toNat,by omega⟩;obtain⟨n2,rfl,rfl,rfl,wn2⟩:=open_int Tryz.underlying5 (hval 2 5 v2 rfl rfl) h2;have bn2:=bounds_u8 wn2;obtain⟨m2,rfl⟩:∃m:Nat,n2=(m:Int):=⟨n2.toNat,by omega⟩;obtain⟨n3,rfl,rfl,rfl,wn3⟩:=open_int Tryz.underlying5 (hval 3 5 v3 rfl rfl) h3;have bn3:=bounds_u8 wn3;obtain⟨m3,rfl⟩:∃m:Nat,n3=(m:Int):=⟨n3.toNat,by omega⟩;have hL2:laidMetH Tryz.prog pG W:=by rw[show pG=Rows.moveTwiceRow.laid from rfl];exact hL
 refine(adw W _ _ _ _ m1 m2 m3 (by omega) (by omega) (by omega) hs0 (ahF hL2 hsh)).mono fun e W' ⟨he,hb⟩ => ?_
 subst he;exact⟨_,rfl,acv laidOut (by kernel_rfl) (by kernel_rfl) rfl rfl hW' hlt hb⟩
theorem aco (os:Os):laidMet Tryz.prog Rows.moveTwiceRow.laid ((GX os).forCall (fun _ _=>0) ⟨#[],#[.slice none 0 0,.int .u8 0,.int .u8 0,.int .u8 0],[]⟩).memory :=
 acp os _
theorem reads (os:Os){H:Type}(enc:TypeId × Value→H):∃places,DataW.whole enc Tryz.prog ((GX os).forCall (fun _ _=>0) ⟨#[],#[.slice none 0 0,.int .u8 0,.int .u8 0,.int .u8 0],[]⟩).memory Tryz.f4.params.toList Rows.moveTwiceSpec.vars false (#[.slice none 0 0,.int .u8 0,.int .u8 0,.int .u8 0]:Array Value).toList 8=some ([.nil,.lit (.int .u8 0),.lit (.int .u8 0),.lit (.int .u8 0)],[],places) :=
 ⟨[],by kernel_rfl⟩
theorem lifted (os:Os)(started:os.Started)(H:Type)(enc:TypeId × Value→H)(F:Stop.Interp) :
 ReturnsInHanded {} Tryz.checked os 4 .any ((OpenSpec.ofChange Rows.moveTwiceSpec).preRow enc Tryz.prog Tryz.f4 Rows.moveTwiceRow.domain false Rows.moveTwiceRow.laid) (((OpenSpec.ofChange Rows.moveTwiceSpec).at F).post enc Tryz.prog Tryz.f4 false true false false):=by
 obtain⟨places,hx⟩:=reads os enc
 refine returnsInHanded_of_row (C:=Tryz.checked) (s:=OpenSpec.ofChange Rows.moveTwiceSpec) own started (by kernel_rfl) Tryz.func4
  (witness_row_at (enc:=enc) (C:=Tryz.checked) false (GX os) #[.slice none 0 0,.int .u8 0,.int .u8 0,.int .u8 0] (World.laidAll_os _ _ _) (by kernel_rfl) (by kernel_rfl) (by kernel_rfl)
    (OpenSpec.preRow_of_cond 8 hx (by kernel_rfl) (fun k hk=>by cases hk) (by kernel_rfl) (aco os))) ?_
 intro W base args ds gs before hval hW _ _ _ hL hsh _;exact Zm H enc W base args ds gs before hval hW hL hsh
theorem said:Rows.MoveTwiceSaid :=
 OpenClaim.holds_of_cond 4 Tryz.f4 rfl rfl rfl rfl rfl rfl rfl ⟨rfl,rfl,rfl,rfl,rfl⟩ rfl rfl rfl rfl rfl (by as_aux_lemma=>kernel_rfl) Tryz.func4 (by as_aux_lemma=>kernel_rfl)
  (of_decide_eq_true (by as_aux_lemma=>kernel_rfl)) (by as_aux_lemma=>(unfold Func.isWrapper;first|(rw[ah (by decide +kernel)];kernel_rfl)|(rw[ag (by decide +kernel)];exact⟨rfl,rfl⟩)))
  (fun os started H enc _ F=>by rw[OpenClaim.pre_eq_preRow];exact lifted os started H enc F)
theorem plain (f : FuncId) (fn : Func) (hf : Tryz.pinned.checked.prog.funcNamed "chequer/chequerlaw12.MoveTwice" = some f) (hfn : Tryz.pinned.checked.prog.funcs[f]? = some fn) :
 true=Tryz.pinned.checked.prog.looks []∧∀(j:Nat) t,fn.params[j]? = some t→Tryz.pinned.checked.prog.wantsStandIn t=false:=by
 obtain rfl : f = 4 := dU ((show Tryz.prog.funcNamed "chequer/chequerlaw12.MoveTwice" = some 4 by kernel_rfl).symm.trans hf) |>.symm
 obtain rfl:fn=Tryz.f4:=(dU (Tryz.func4.symm.trans hfn)).symm;refine⟨by kernel_rfl,fun j t ht => ?_⟩;rw[Tryz.params4]at ht;have aT:(#[22,5,5,5].all fun t => !Tryz.prog.wantsStandIn t)=true:=by kernel_rfl
 have:=(Array.all_eq_true_iff_forall_mem.1 aT) t (Array.mem_of_getElem? ht);exact(show Tryz.prog.wantsStandIn t=false from by simpa using this)
theorem card:Rows.MoveTwiceCardSaid :=
 Claim7.holds_tied_plain_at .later [] _ _ _ _ said (fun _ h=>by cases h) (by kernel_rfl) (fun _ h=>by cases h) moveTwice_row_tie rfl ⟨rfl,rfl⟩ (by kernel_rfl) rfl plain (by kernel_rfl)
end Go.Proofs.YtaobhjliflomaaaGreatDoor.lawMoveTwice
