/-
 'chequerlaw12.MoveStays': for any bytes (up to 30 of them; of more the document's example alone), any two numbers and any text (up to 300 bytes): by no shifts, by shifts that move nothing and by shifts of other sheets, a formula made by numbers stays, if it may stand in a cell; a text stays even where its sheet is gone; the document's example holds. Condition: none (the operators, the lists of signs, the library's errors and its tables start as the program's text lays them: the card ties them).
-/
import Derived.Test.YtaobhjliflomaaaGreatDoorMTCardMoveStays1
set_option maxRecDepth 100000
set_option maxHeartbeats 64000000
namespace Go.Proofs.YtaobhjliflomaaaGreatDoor.lawMoveStays
open Go.ChangeShapes Go.WideShapes Go.ChangeAt Go.RowKit
open Go.WideMaps Go.WideElems
open Go.ChangeMaps (open_string shut_string)
theorem Yg (H:Type)(enc:TypeId × Value→H)(W:World)(base:Nat)(args:Array Value)(ds gs:List (DataW H))(before:List MemPlace)
 (hval:∀(j:Nat) t v,Tryz.f3.params[j]? = some t→args[j]? = some v→Value.okWide Tryz.prog W .any base t v)
 (hW:DataW.Whole enc Tryz.prog Tryz.f3.params.toList Rows.moveStaysSpec.vars false W args.toList ds gs before) (hL:laidMetH Tryz.prog Rows.moveStaysRow.laid W) (hsh:W.ShapedOpen Tryz.prog) :
 Calls Tryz.prog 3 args W fun e W'=>∃v,e = .returned v∧Rows.moveStaysSpec.post enc Tryz.prog Tryz.f3 false true false false W args v W':=by
 have hW':=hW;have hlt:=hW.lt;obtain⟨p,q,hA,hV,rfl,hfz,hnd⟩:=hW;rw[Tryz.params3]at hA hval;obtain⟨v0,vs0,d0,ds0,p0,q0,aid,rfl,rfl,h0,r0⟩:=trodAll_cons hA;obtain⟨v1,vs1,d1,ds1,p1,q1,rfl,rfl,rfl,h1,r1⟩:=trodAll_cons r0;obtain⟨v2,vs2,d2,ds2,p2,q2,rfl,rfl,rfl,h2,r2⟩:=trodAll_cons r1;obtain⟨v3,vs3,d3,ds3,p3,q3,rfl,rfl,rfl,h3,r3⟩:=trodAll_cons r2;obtain⟨rfl,rfl,rfl⟩:=trodAll_nil r3;obtain rfl:args=#[v0,v1,v2,v3]:=by cases args;simp_all
 obtain⟨rfl,rfl⟩:=trodVars_none hV;obtain⟨A0,l0,c0,xs0,rfl,hs0⟩:=adr (hval 0 22 v0 rfl rfl) h0;obtain⟨n1,rfl,rfl,rfl,wn1⟩:=open_int Tryz.underlying5 (hval 1 5 v1 rfl rfl) h1;have bn1:=bounds_u8 wn1;obtain⟨m1,rfl⟩:∃m:Nat,n1=(m:Int):=⟨n1.toNat,by omega⟩;obtain⟨n2,rfl,rfl,rfl,wn2⟩:=open_int Tryz.underlying5 (hval 2 5 v2 rfl rfl) h2;have bn2:=bounds_u8 wn2;obtain⟨m2,rfl⟩:∃m:Nat,n2=(m:Int):=⟨n2.toNat,by omega⟩;obtain⟨s3,rfl,rfl,rfl,hs3⟩:=open_string Tryz.underlying9 (hval 3 9 v3 rfl rfl) h3;have hL2:laidMetH Tryz.prog oG W:=by rw[show oG=Rows.moveStaysRow.laid from rfl];exact hL
 refine(acn W _ _ _ _ m1 m2 s3 hs0 (agE hL2 hsh)).mono fun e W' ⟨he,hb⟩ => ?_
 subst he;exact⟨_,rfl,abn laidOut (by kernel_rfl) (by kernel_rfl) rfl rfl hW' hlt hb⟩
theorem abj (os:Os):laidMet Tryz.prog Rows.moveStaysRow.laid ((FW os).forCall (fun _ _=>0) ⟨#[],#[.slice none 0 0,.int .u8 0,.int .u8 0,.string ⟨#[]⟩],[]⟩).memory :=
 abk os _
theorem reads (os:Os){H:Type}(enc:TypeId × Value→H):∃places,DataW.whole enc Tryz.prog ((FW os).forCall (fun _ _=>0) ⟨#[],#[.slice none 0 0,.int .u8 0,.int .u8 0,.string ⟨#[]⟩],[]⟩).memory Tryz.f3.params.toList Rows.moveStaysSpec.vars false (#[.slice none 0 0,.int .u8 0,.int .u8 0,.string ⟨#[]⟩]:Array Value).toList 8=some ([.nil,.lit (.int .u8 0),.lit (.int .u8 0),.lit (.string [])],[],places) :=
 ⟨[],by kernel_rfl⟩
theorem lifted (os:Os)(started:os.Started)(H:Type)(enc:TypeId × Value→H)(F:Stop.Interp) :
 ReturnsInHanded {} Tryz.checked os 3 .any ((OpenSpec.ofChange Rows.moveStaysSpec).preRow enc Tryz.prog Tryz.f3 Rows.moveStaysRow.domain false Rows.moveStaysRow.laid) (((OpenSpec.ofChange Rows.moveStaysSpec).at F).post enc Tryz.prog Tryz.f3 false true false false):=by
 obtain⟨places,hx⟩:=reads os enc
 refine returnsInHanded_of_row (C:=Tryz.checked) (s:=OpenSpec.ofChange Rows.moveStaysSpec) own started (by kernel_rfl) Tryz.func3
  (witness_row_at (enc:=enc) (C:=Tryz.checked) false (FW os) #[.slice none 0 0,.int .u8 0,.int .u8 0,.string ⟨#[]⟩] (World.laidAll_os _ _ _) (by kernel_rfl) (by kernel_rfl) (by kernel_rfl)
    (OpenSpec.preRow_of_cond 8 hx (by kernel_rfl) (fun k hk=>by cases hk) (by kernel_rfl) (abj os))) ?_
 intro W base args ds gs before hval hW _ _ _ hL hsh _;exact Yg H enc W base args ds gs before hval hW hL hsh
theorem said:Rows.MoveStaysSaid :=
 OpenClaim.holds_of_cond 3 Tryz.f3 rfl rfl rfl rfl rfl rfl rfl ⟨rfl,rfl,rfl,rfl,rfl⟩ rfl rfl rfl rfl rfl (by as_aux_lemma=>kernel_rfl) Tryz.func3 (by as_aux_lemma=>kernel_rfl)
  (of_decide_eq_true (by as_aux_lemma=>kernel_rfl)) (by as_aux_lemma=>(unfold Func.isWrapper;first|(rw[if_pos (by decide +kernel)];kernel_rfl)|(rw[if_neg (by decide +kernel)];exact⟨rfl,rfl⟩)))
  (fun os started H enc _ F=>by rw[OpenClaim.pre_eq_preRow];exact lifted os started H enc F)
theorem plain (f : FuncId) (fn : Func) (hf : Tryz.pinned.checked.prog.funcNamed "chequer/chequerlaw12.MoveStays" = some f) (hfn : Tryz.pinned.checked.prog.funcs[f]? = some fn) :
 true=Tryz.pinned.checked.prog.looks []∧∀(j:Nat) t,fn.params[j]? = some t→Tryz.pinned.checked.prog.wantsStandIn t=false:=by
 obtain rfl : f = 3 := dU ((show Tryz.prog.funcNamed "chequer/chequerlaw12.MoveStays" = some 3 by kernel_rfl).symm.trans hf) |>.symm
 obtain rfl:fn=Tryz.f3:=(dU (Tryz.func3.symm.trans hfn)).symm;refine⟨by kernel_rfl,fun j t ht => ?_⟩;rw[Tryz.params3]at ht;have aX:(#[22,5,5,9].all fun t => !Tryz.prog.wantsStandIn t)=true:=by kernel_rfl
 have:=(Array.all_eq_true_iff_forall_mem.1 aX) t (Array.mem_of_getElem? ht);exact(show Tryz.prog.wantsStandIn t=false from by simpa using this)
theorem card:Rows.MoveStaysCardSaid :=
 Claim7.holds_tied_plain_at .later [] _ _ _ _ said (fun _ h=>by cases h) (by kernel_rfl) (fun _ h=>by cases h) moveStays_row_tie rfl ⟨rfl,rfl⟩ (by kernel_rfl) rfl plain (by kernel_rfl)
end Go.Proofs.YtaobhjliflomaaaGreatDoor.lawMoveStays
