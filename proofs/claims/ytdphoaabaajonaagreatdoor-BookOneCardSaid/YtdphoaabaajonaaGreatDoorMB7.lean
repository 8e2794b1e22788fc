/-
 Texts of layers, put together.
-/
import Derived.Test.YtdphoaabaajonaaGreatDoorMB6
namespace Go.Proofs.YtdphoaabaajonaaGreatDoor
open Go.RowKit
theorem refDrew {w:World} {b:Nat} {s:ByteArray} {c r:Int} {ac ar:Bool} (h:RefAt w b s c r ac ar):RefAt w.drew b s c r ac ar:=h
theorem Tab.drew {w:World} (h:Tab w):Tab w.drew:=h
theorem below_undrew {w w':World} (h:Below w.drew.heap.size w.drew w'):Below w.heap.size w w':=⟨h.os,h.tape,h.output,h.size,h.block⟩
theorem itoa_eq {x:Int} {k:Nat} (h:x=(k:Int)) (h1:k≤9223372036854775807) (w:World) (ht:Tab w) :
 Calls Tryz.prog 59 #[.int .i64 x] w fun e w'=>e = .returned (.string (strOfNums (digL k)))∧Below w.heap.size w w':=by subst h;exact itoa_any k h1 w ht
theorem str8_eq {w:World} {base:Nat} {v:Value} {xs:List Int} {t:ByteArray} (e:strOfNums xs=t) (h:Own8 w base v xs):(convert 22 9 v).run Tryz.prog w = .ok (.string t) w:=by rw [← e];exact run_str8 h
theorem sb_colL (c:Int):sb (strOfNums (colL c))=colL c:=sb_str _ (bytes_colL c)
set_option maxRecDepth 100000 in
set_option maxHeartbeats 1000000 in
theorem text_enn_p (s:ByteArray) (c r:Int) (k:Nat) (w:World) (htab:Tab w) (_hs:s.size≤1000000) (h0:s.size=0) (hm:mayL (sb s) c r=true) (hc0:0≤c) (hc1:c≤701) (hr0:0≤r) (hr1:r≤998) (hk:r+1=(k:Int)) (hz1:(strOfNums (colL c)).size≤2) (hz2:(strOfNums (digL k)).size≤1000) :
 Calls Tryz.prog 186 #[.agg #[.string s,.int .i64 c,.int .i64 r,.bool false,.bool false]] w fun e w'=>e = .returned (.string (strOfNums (textL (sb s) c r false false)))∧Below w.heap.size w w':=by
 have hk2:(r+1).toNat=k:=by omega
 have he:sb s=[]:=List.eq_nil_of_length_eq_zero (by rw [length_sb];exact h0)
 have ht:(([])++sb (strOfNums (colL c)))++digL k=textL (sb s) c r false false:=by unfold textL;rw [if_pos hm,hk2,if_pos he,sb_colL];simp
 have HT:=Lib.hid ht;clear ht hk2 he
 obtain ⟨tt,htt⟩:∃ t,strOfNums (([])++sb (strOfNums (colL c)))=t:=⟨_,rfl⟩
 have hzt:tt.size≤1000100:=by rw [← htt,strOfNums_size];simp only [List.length_append,List.length_nil,length_sb];omega
 have HTT:=Lib.hid htt;clear htt
 have HSUM:=Lib.hid (show ¬ 9223372036854775807<tt.size+(strOfNums (digL k)).size by omega)
 have:=sb_nil s h0
 subst this
 clear h0
 have hR0:=RefAt.new w ⟨#[]⟩ c r false false
 have HR0:=Lib.hid hR0;clear hR0
 have H0:=Lib.hid ((Below.refl w.heap.size w).alloc (Nat.le_refl _) (.cells #[.string ⟨#[]⟩,.int .i64 c,.int .i64 r,.bool false,.bool false] 99))
 have HTAB:=Lib.hid htab;clear htab
 have hk9:k≤999:=by omega
 have hwr:IntKind.i64.wrap (r+1)=r+1:=by rw [IntKind.wrap_i64];omega
 have HK:=Lib.hid hk;clear hk
 go_enter Tryz.func186,Tryz.ntmps186
 go_wp2_with (first
  | (go_at_call 181;((with_reducible refine (may_any _ _ _ _ _ _ ?_).mono ?_);(first | omega | skip);rintro e w1 ⟨rfl,h1⟩;have hR1:=HR0.out.below h1 HR0.out.lt;obtain ⟨x0,x1,x2,x3,x4⟩:=hR1.facts;have HR1:=Lib.hid hR1;clear hR1;have HO:=Lib.hid (Own.nil (encInt .u8) 5 w1 w1.heap.size);have HB:=Lib.hid (Below.refl w1.heap.size w1);have H1:=Lib.hid h1;clear h1))
  | (go_at_call 202;((with_reducible refine (col_any _ ?_ ?_ _).mono ?_);(first | omega | skip);(first | omega | skip);rintro e w2 ⟨rfl,rfl⟩))
  | (at_builtin;refine wpList_app_src Elem.u8 (encInt .u8) rfl (.tmp 21) (.tmp 24) rfl w1.heap.size _ _ rfl HO.out (.string (strOfNums (colL c))) (strOfNums (colL c)).size (sb (strOfNums (colL c))) rfl (length_sb (strOfNums (colL c))) (src_text (strOfNums (colL c))) ?_ ?_ ?_ ?_;(simp only [List.length_nil];omega);(simp only [List.length_nil];unfold maxLen;omega);exact HB.out.size;intro v3 w3 h1 h2;have HO:=Lib.hid h1;clear h1;have HB:=Lib.hid (HB.out.trans h2);clear h2;clear x0 x1 x2 x3 x4;obtain ⟨x0,x1,x2,x3,x4⟩:=(HR1.out.below (HB.out) HR1.out.lt).facts))
 refine kept_start (by kernel_rfl) ?_
 show wpAnyH _ _ _ _ _ 8 #[false,false,false,false,false,false,false,false] _ _
 refine kept_take (i:=0) (d:=some 31) (fuel:=7) (listed':=#[true,false,false,false,false,false,false,false]) (v := ?_) rfl rfl (by kernel_rfl) (by kernel_rfl) (by kernel_rfl) rfl (fun _ _ _ h=>h) (by rfl) ?_ ?_
 rotate_left
 · (intro wS hSw;go_simp;try (with_reducible rfl))
 simp only [Act.put,sT,sZ,sS]
 refine kept_take (i:=1) (d:=some 32) (fuel:=6) (listed':=#[true,true,false,false,false,false,false,false]) (v := ?_) rfl rfl (by kernel_rfl) (by kernel_rfl) (by kernel_rfl) rfl (fun _ _ _ h=>h) (by rfl) ?_ ?_
 rotate_left
 · (intro wS hSw;have hz:=(fun W (hW:Below _ _ W)=>str8_eq HTT.out (Own.below (Own.drew HO.out) hW (Nat.le_refl _))) wS hSw;go_simp;try (with_reducible rfl))
 simp only [Act.put,sT,sZ,sS]
 refine kept_take (i:=2) (d:=some 33) (fuel:=5) (listed':=#[true,true,true,false,false,false,false,false]) (v := ?_) rfl rfl (by kernel_rfl) (by kernel_rfl) (by kernel_rfl) rfl (fun _ _ _ h=>h) (by rfl) ?_ ?_
 rotate_left
 · (intro wS hSw;go_simp;try (with_reducible rfl))
 simp only [Act.put,sT,sZ,sS]
 refine kept_take (i:=3) (d:=some 34) (fuel:=4) (listed':=#[true,true,true,true,false,false,false,false]) (v := ?_) rfl rfl (by kernel_rfl) (by kernel_rfl) (by kernel_rfl) rfl (fun _ _ _ h=>h) (by rfl) ?_ ?_
 rotate_left
 · (intro wS hSw;have hz:=(fun W (hW:Below _ _ W)=>((refDrew (HR1.out.below HB.out HR1.out.lt)).below hW (Nat.lt_of_lt_of_le HR1.out.lt HB.out.size)).facts) wS hSw;go_simp;try (with_reducible rfl))
 simp only [Act.put,sT,sZ,sS]
 refine kept_take (i:=4) (d:=some 35) (fuel:=3) (listed':=#[true,true,true,true,true,false,false,false]) (v := ?_) rfl rfl (by kernel_rfl) (by kernel_rfl) (by kernel_rfl) rfl (fun _ _ _ h=>h) (by rfl) ?_ ?_
 rotate_left
 · (intro wS hSw;go_simp;try (with_reducible rfl))
 simp only [Act.put,sT,sZ,sS]
 refine kept_call (i:=5) (d:=some 36) (fuel:=2) (listed':=#[true,true,true,true,true,true,false,false]) rfl rfl (by kernel_rfl) rfl (by rfl) (fun K hK => ?_)
 go_simp
 refine (itoa_eq HK.out (by omega) _ (Tab.drew (((HTAB.out.below H0.out).below H1.out).below HB.out))).mono ?_
 rintro e w4 ⟨rfl,hstep⟩
 have HB4:=Lib.hid (below_undrew hstep)
 go_wp2_with fail
 refine hK.out _ _ hstep hstep.size ?_
 clear hK K
 simp only [Act.put,sT,sZ,sS]
 refine kept_take (i:=6) (d:=some 37) (fuel:=1) (listed':=#[true,true,true,true,true,true,true,false]) (v := ?_) rfl rfl (by kernel_rfl) (by kernel_rfl) (by kernel_rfl) rfl (fun _ _ _ h=>h) (by rfl) ?_ ?_
 rotate_left
 · (intro wS hSw;have hz:=(fun (_:World) (_:Below _ _ _)=>HSUM.out) wS hSw;go_simp;try (with_reducible rfl))
 simp only [Act.put,sT,sZ,sS]
 refine kept_take (i:=7) (d:=some 2) (fuel:=0) (listed':=#[true,true,true,true,true,true,true,true]) (v := ?_) rfl rfl (by kernel_rfl) (by kernel_rfl) (by kernel_rfl) rfl (fun _ _ _ h=>h) (by rfl) ?_ ?_
 rotate_left
 · (intro wS hSw;go_simp;try (with_reducible rfl))
 simp only [Act.put,sT,sZ,sS]
 refine wpAnyH_done (by kernel_rfl) ?_ _
 go_wp2_with fail
 go_ret
 exact ⟨ret_str (by rw [← HTT.out];exact (str_append _ _).trans (congrArg strOfNums HT.out)),below3 H0.out H1.out HB.out HB4.out⟩
set_option maxRecDepth 100000 in
set_option maxHeartbeats 1000000 in
theorem text_end_p (s:ByteArray) (c r:Int) (k:Nat) (w:World) (htab:Tab w) (_hs:s.size≤1000000) (h0:s.size=0) (hm:mayL (sb s) c r=true) (hc0:0≤c) (hc1:c≤701) (hr0:0≤r) (hr1:r≤998) (hk:r+1=(k:Int)) (hz1:(strOfNums (colL c)).size≤2) (hz2:(strOfNums (digL k)).size≤1000) :
 Calls Tryz.prog 186 #[.agg #[.string s,.int .i64 c,.int .i64 r,.bool false,.bool true]] w fun e w'=>e = .returned (.string (strOfNums (textL (sb s) c r false true)))∧Below w.heap.size w w':=by
 have hk2:(r+1).toNat=k:=by omega
 have he:sb s=[]:=List.eq_nil_of_length_eq_zero (by rw [length_sb];exact h0)
 have ht:((([])++sb (strOfNums (colL c)))++[36])++digL k=textL (sb s) c r false true:=by unfold textL;rw [if_pos hm,hk2,if_pos he,sb_colL];simp
 have HT:=Lib.hid ht;clear ht hk2 he
 obtain ⟨tt,htt⟩:∃ t,strOfNums ((([])++sb (strOfNums (colL c)))++[36])=t:=⟨_,rfl⟩
 have hzt:tt.size≤1000100:=by rw [← htt,strOfNums_size];simp only [List.length_append,List.length_nil,length_sb,List.length_cons];omega
 have HTT:=Lib.hid htt;clear htt
 have HSUM:=Lib.hid (show ¬ 9223372036854775807<tt.size+(strOfNums (digL k)).size by omega)
 have:=sb_nil s h0
 subst this
 clear h0
 have hR0:=RefAt.new w ⟨#[]⟩ c r false true
 have HR0:=Lib.hid hR0;clear hR0
 have H0:=Lib.hid ((Below.refl w.heap.size w).alloc (Nat.le_refl _) (.cells #[.string ⟨#[]⟩,.int .i64 c,.int .i64 r,.bool false,.bool true] 99))
 have HTAB:=Lib.hid htab;clear htab
 have hk9:k≤999:=by omega
 have hwr:IntKind.i64.wrap (r+1)=r+1:=by rw [IntKind.wrap_i64];omega
 have HK:=Lib.hid hk;clear hk
 go_enter Tryz.func186,Tryz.ntmps186
 go_wp2_with (first
  | (go_at_call 181;((with_reducible refine (may_any _ _ _ _ _ _ ?_).mono ?_);(first | omega | skip);rintro e w1 ⟨rfl,h1⟩;have hR1:=HR0.out.below h1 HR0.out.lt;obtain ⟨x0,x1,x2,x3,x4⟩:=hR1.facts;have HR1:=Lib.hid hR1;clear hR1;have HO:=Lib.hid (Own.nil (encInt .u8) 5 w1 w1.heap.size);have HB:=Lib.hid (Below.refl w1.heap.size w1);have H1:=Lib.hid h1;clear h1))
  | (go_at_call 202;((with_reducible refine (col_any _ ?_ ?_ _).mono ?_);(first | omega | skip);(first | omega | skip);rintro e w2 ⟨rfl,rfl⟩))
  | (at_builtin;refine wpList_app_src Elem.u8 (encInt .u8) rfl (.tmp 21) (.tmp 24) rfl w1.heap.size _ _ rfl HO.out (.string (strOfNums (colL c))) (strOfNums (colL c)).size (sb (strOfNums (colL c))) rfl (length_sb (strOfNums (colL c))) (src_text (strOfNums (colL c))) ?_ ?_ ?_ ?_;(simp only [List.length_nil];omega);(simp only [List.length_nil];unfold maxLen;omega);exact HB.out.size;intro v3 w3 h1 h2;have HO:=Lib.hid h1;clear h1;have HB:=Lib.hid (HB.out.trans h2);clear h2;clear x0 x1 x2 x3 x4;obtain ⟨x0,x1,x2,x3,x4⟩:=(HR1.out.below (HB.out) HR1.out.lt).facts)
  | (at_builtin;refine wpList_app Elem.u8 (encInt .u8) rfl (.tmp 28) (.tmp 29) rfl w1.heap.size _ _ rfl (HO.out.alloc _) ⟨_,0,none⟩ 1 1 [36] rfl rfl ?_ ?_ ?_ ?_ ?_;exact cells_new _ _ _ rfl;(simp only [List.length_nil,List.length_append,length_sb];omega);(simp only [List.length_nil,List.length_append,length_sb];unfold maxLen;omega);(have:=HB.out.size;simp <;> omega);intro v3 w3 h1 h2;have HO:=Lib.hid h1;clear h1;have HB:=Lib.hid ((HB.out.alloc HB.out.size _).trans h2);clear h2;clear x0 x1 x2 x3 x4;obtain ⟨x0,x1,x2,x3,x4⟩:=(HR1.out.below (HB.out) HR1.out.lt).facts))
 refine kept_start (by kernel_rfl) ?_
 show wpAnyH _ _ _ _ _ 8 #[false,false,false,false,false,false,false,false] _ _
 refine kept_take (i:=0) (d:=some 31) (fuel:=7) (listed':=#[true,false,false,false,false,false,false,false]) (v := ?_) rfl rfl (by kernel_rfl) (by kernel_rfl) (by kernel_rfl) rfl (fun _ _ _ h=>h) (by rfl) ?_ ?_
 rotate_left
 · (intro wS hSw;go_simp;try (with_reducible rfl))
 simp only [Act.put,sT,sZ,sS]
 refine kept_take (i:=1) (d:=some 32) (fuel:=6) (listed':=#[true,true,false,false,false,false,false,false]) (v := ?_) rfl rfl (by kernel_rfl) (by kernel_rfl) (by kernel_rfl) rfl (fun _ _ _ h=>h) (by rfl) ?_ ?_
 rotate_left
 · (intro wS hSw;have hz:=(fun W (hW:Below _ _ W)=>str8_eq HTT.out (Own.below (Own.drew HO.out) hW (Nat.le_refl _))) wS hSw;go_simp;try (with_reducible rfl))
 simp only [Act.put,sT,sZ,sS]
 refine kept_take (i:=2) (d:=some 33) (fuel:=5) (listed':=#[true,true,true,false,false,false,false,false]) (v := ?_) rfl rfl (by kernel_rfl) (by kernel_rfl) (by kernel_rfl) rfl (fun _ _ _ h=>h) (by rfl) ?_ ?_
 rotate_left
 · (intro wS hSw;go_simp;try (with_reducible rfl))
 simp only [Act.put,sT,sZ,sS]
 refine kept_take (i:=3) (d:=some 34) (fuel:=4) (listed':=#[true,true,true,true,false,false,false,false]) (v := ?_) rfl rfl (by kernel_rfl) (by kernel_rfl) (by kernel_rfl) rfl (fun _ _ _ h=>h) (by rfl) ?_ ?_
 rotate_left
 · (intro wS hSw;have hz:=(fun W (hW:Below _ _ W)=>((refDrew (HR1.out.below HB.out HR1.out.lt)).below hW (Nat.lt_of_lt_of_le HR1.out.lt HB.out.size)).facts) wS hSw;go_simp;try (with_reducible rfl))
 simp only [Act.put,sT,sZ,sS]
 refine kept_take (i:=4) (d:=some 35) (fuel:=3) (listed':=#[true,true,true,true,true,false,false,false]) (v := ?_) rfl rfl (by kernel_rfl) (by kernel_rfl) (by kernel_rfl) rfl (fun _ _ _ h=>h) (by rfl) ?_ ?_
 rotate_left
 · (intro wS hSw;go_simp;try (with_reducible rfl))
 simp only [Act.put,sT,sZ,sS]
 refine kept_call (i:=5) (d:=some 36) (fuel:=2) (listed':=#[true,true,true,true,true,true,false,false]) rfl rfl (by kernel_rfl) rfl (by rfl) (fun K hK => ?_)
 go_simp
 refine (itoa_eq HK.out (by omega) _ (Tab.drew (((HTAB.out.below H0.out).below H1.out).below HB.out))).mono ?_
 rintro e w4 ⟨rfl,hstep⟩
 have HB4:=Lib.hid (below_undrew hstep)
 go_wp2_with fail
 refine hK.out _ _ hstep hstep.size ?_
 clear hK K
 simp only [Act.put,sT,sZ,sS]
 refine kept_take (i:=6) (d:=some 37) (fuel:=1) (listed':=#[true,true,true,true,true,true,true,false]) (v := ?_) rfl rfl (by kernel_rfl) (by kernel_rfl) (by kernel_rfl) rfl (fun _ _ _ h=>h) (by rfl) ?_ ?_
 rotate_left
 · (intro wS hSw;have hz:=(fun (_:World) (_:Below _ _ _)=>HSUM.out) wS hSw;go_simp;try (with_reducible rfl))
 simp only [Act.put,sT,sZ,sS]
 refine kept_take (i:=7) (d:=some 2) (fuel:=0) (listed':=#[true,true,true,true,true,true,true,true]) (v := ?_) rfl rfl (by kernel_rfl) (by kernel_rfl) (by kernel_rfl) rfl (fun _ _ _ h=>h) (by rfl) ?_ ?_
 rotate_left
 · (intro wS hSw;go_simp;try (with_reducible rfl))
 simp only [Act.put,sT,sZ,sS]
 refine wpAnyH_done (by kernel_rfl) ?_ _
 go_wp2_with fail
 go_ret
 exact ⟨ret_str (by rw [← HTT.out];exact (str_append _ _).trans (congrArg strOfNums HT.out)),below3 H0.out H1.out HB.out HB4.out⟩
set_option maxRecDepth 100000 in
set_option maxHeartbeats 1000000 in
theorem text_edn_p (s:ByteArray) (c r:Int) (k:Nat) (w:World) (htab:Tab w) (_hs:s.size≤1000000) (h0:s.size=0) (hm:mayL (sb s) c r=true) (hc0:0≤c) (hc1:c≤701) (hr0:0≤r) (hr1:r≤998) (hk:r+1=(k:Int)) (hz1:(strOfNums (colL c)).size≤2) (hz2:(strOfNums (digL k)).size≤1000) :
 Calls Tryz.prog 186 #[.agg #[.string s,.int .i64 c,.int .i64 r,.bool true,.bool false]] w fun e w'=>e = .returned (.string (strOfNums (textL (sb s) c r true false)))∧Below w.heap.size w w':=by
 have hk2:(r+1).toNat=k:=by omega
 have he:sb s=[]:=List.eq_nil_of_length_eq_zero (by rw [length_sb];exact h0)
 have ht:((([])++[36])++sb (strOfNums (colL c)))++digL k=textL (sb s) c r true false:=by unfold textL;rw [if_pos hm,hk2,if_pos he,sb_colL];simp
 have HT:=Lib.hid ht;clear ht hk2 he
 obtain ⟨tt,htt⟩:∃ t,strOfNums ((([])++[36])++sb (strOfNums (colL c)))=t:=⟨_,rfl⟩
 have hzt:tt.size≤1000100:=by rw [← htt,strOfNums_size];simp only [List.length_append,List.length_nil,length_sb,List.length_cons];omega
 have HTT:=Lib.hid htt;clear htt
 have HSUM:=Lib.hid (show ¬ 9223372036854775807<tt.size+(strOfNums (digL k)).size by omega)
 have:=sb_nil s h0
 subst this
 clear h0
 have hR0:=RefAt.new w ⟨#[]⟩ c r true false
 have HR0:=Lib.hid hR0;clear hR0
 have H0:=Lib.hid ((Below.refl w.heap.size w).alloc (Nat.le_refl _) (.cells #[.string ⟨#[]⟩,.int .i64 c,.int .i64 r,.bool true,.bool false] 99))
 have HTAB:=Lib.hid htab;clear htab
 have hk9:k≤999:=by omega
 have hwr:IntKind.i64.wrap (r+1)=r+1:=by rw [IntKind.wrap_i64];omega
 have HK:=Lib.hid hk;clear hk
 go_enter Tryz.func186,Tryz.ntmps186
 go_wp2_with (first
  | (go_at_call 181;((with_reducible refine (may_any _ _ _ _ _ _ ?_).mono ?_);(first | omega | skip);rintro e w1 ⟨rfl,h1⟩;have hR1:=HR0.out.below h1 HR0.out.lt;obtain ⟨x0,x1,x2,x3,x4⟩:=hR1.facts;have HR1:=Lib.hid hR1;clear hR1;have HO:=Lib.hid (Own.nil (encInt .u8) 5 w1 w1.heap.size);have HB:=Lib.hid (Below.refl w1.heap.size w1);have H1:=Lib.hid h1;clear h1))
  | (at_builtin;refine wpList_app Elem.u8 (encInt .u8) rfl (.tmp 18) (.tmp 19) rfl w1.heap.size _ _ rfl (HO.out.alloc _) ⟨_,0,none⟩ 1 1 [36] rfl rfl ?_ ?_ ?_ ?_ ?_;exact cells_new _ _ _ rfl;(decide);(unfold maxLen;decide);(have:=HB.out.size;simp <;> omega);intro v3 w3 h1 h2;have HO:=Lib.hid h1;clear h1;have HB:=Lib.hid ((HB.out.alloc HB.out.size _).trans h2);clear h2;clear x0 x1 x2 x3 x4;obtain ⟨x0,x1,x2,x3,x4⟩:=(HR1.out.below (HB.out) HR1.out.lt).facts)
  | (go_at_call 202;((with_reducible refine (col_any _ ?_ ?_ _).mono ?_);(first | omega | skip);(first | omega | skip);rintro e w2 ⟨rfl,rfl⟩))
  | (at_builtin;refine wpList_app_src Elem.u8 (encInt .u8) rfl (.tmp 21) (.tmp 24) rfl w1.heap.size _ _ rfl HO.out (.string (strOfNums (colL c))) (strOfNums (colL c)).size (sb (strOfNums (colL c))) rfl (length_sb (strOfNums (colL c))) (src_text (strOfNums (colL c))) ?_ ?_ ?_ ?_;(simp only [List.length_nil,List.length_append,List.length_cons];omega);(simp only [List.length_nil,List.length_append,List.length_cons];unfold maxLen;omega);exact HB.out.size;intro v3 w3 h1 h2;have HO:=Lib.hid h1;clear h1;have HB:=Lib.hid (HB.out.trans h2);clear h2;clear x0 x1 x2 x3 x4;obtain ⟨x0,x1,x2,x3,x4⟩:=(HR1.out.below (HB.out) HR1.out.lt).facts))
 refine kept_start (by kernel_rfl) ?_
 show wpAnyH _ _ _ _ _ 8 #[false,false,false,false,false,false,false,false] _ _
 refine kept_take (i:=0) (d:=some 31) (fuel:=7) (listed':=#[true,false,false,false,false,false,false,false]) (v := ?_) rfl rfl (by kernel_rfl) (by kernel_rfl) (by kernel_rfl) rfl (fun _ _ _ h=>h) (by rfl) ?_ ?_
 rotate_left
 · (intro wS hSw;go_simp;try (with_reducible rfl))
 simp only [Act.put,sT,sZ,sS]
 refine kept_take (i:=1) (d:=some 32) (fuel:=6) (listed':=#[true,true,false,false,false,false,false,false]) (v := ?_) rfl rfl (by kernel_rfl) (by kernel_rfl) (by kernel_rfl) rfl (fun _ _ _ h=>h) (by rfl) ?_ ?_
 rotate_left
 · (intro wS hSw;have hz:=(fun W (hW:Below _ _ W)=>str8_eq HTT.out (Own.below (Own.drew HO.out) hW (Nat.le_refl _))) wS hSw;go_simp;try (with_reducible rfl))
 simp only [Act.put,sT,sZ,sS]
 refine kept_take (i:=2) (d:=some 33) (fuel:=5) (listed':=#[true,true,true,false,false,false,false,false]) (v := ?_) rfl rfl (by kernel_rfl) (by kernel_rfl) (by kernel_rfl) rfl (fun _ _ _ h=>h) (by rfl) ?_ ?_
 rotate_left
 · (intro wS hSw;go_simp;try (with_reducible rfl))
 simp only [Act.put,sT,sZ,sS]
 refine kept_take (i:=3) (d:=some 34) (fuel:=4) (listed':=#[true,true,true,true,false,false,false,false]) (v := ?_) rfl rfl (by kernel_rfl) (by kernel_rfl) (by kernel_rfl) rfl (fun _ _ _ h=>h) (by rfl) ?_ ?_
 rotate_left
 · (intro wS hSw;have hz:=(fun W (hW:Below _ _ W)=>((refDrew (HR1.out.below HB.out HR1.out.lt)).below hW (Nat.lt_of_lt_of_le HR1.out.lt HB.out.size)).facts) wS hSw;go_simp;try (with_reducible rfl))
 simp only [Act.put,sT,sZ,sS]
 refine kept_take (i:=4) (d:=some 35) (fuel:=3) (listed':=#[true,true,true,true,true,false,false,false]) (v := ?_) rfl rfl (by kernel_rfl) (by kernel_rfl) (by kernel_rfl) rfl (fun _ _ _ h=>h) (by rfl) ?_ ?_
 rotate_left
 · (intro wS hSw;go_simp;try (with_reducible rfl))
 simp only [Act.put,sT,sZ,sS]
 refine kept_call (i:=5) (d:=some 36) (fuel:=2) (listed':=#[true,true,true,true,true,true,false,false]) rfl rfl (by kernel_rfl) rfl (by rfl) (fun K hK => ?_)
 go_simp
 refine (itoa_eq HK.out (by omega) _ (Tab.drew (((HTAB.out.below H0.out).below H1.out).below HB.out))).mono ?_
 rintro e w4 ⟨rfl,hstep⟩
 have HB4:=Lib.hid (below_undrew hstep)
 go_wp2_with fail
 refine hK.out _ _ hstep hstep.size ?_
 clear hK K
 simp only [Act.put,sT,sZ,sS]
 refine kept_take (i:=6) (d:=some 37) (fuel:=1) (listed':=#[true,true,true,true,true,true,true,false]) (v := ?_) rfl rfl (by kernel_rfl) (by kernel_rfl) (by kernel_rfl) rfl (fun _ _ _ h=>h) (by rfl) ?_ ?_
 rotate_left
 · (intro wS hSw;have hz:=(fun (_:World) (_:Below _ _ _)=>HSUM.out) wS hSw;go_simp;try (with_reducible rfl))
 simp only [Act.put,sT,sZ,sS]
 refine kept_take (i:=7) (d:=some 2) (fuel:=0) (listed':=#[true,true,true,true,true,true,true,true]) (v := ?_) rfl rfl (by kernel_rfl) (by kernel_rfl) (by kernel_rfl) rfl (fun _ _ _ h=>h) (by rfl) ?_ ?_
 rotate_left
 · (intro wS hSw;go_simp;try (with_reducible rfl))
 simp only [Act.put,sT,sZ,sS]
 refine wpAnyH_done (by kernel_rfl) ?_ _
 go_wp2_with fail
 go_ret
 exact ⟨ret_str (by rw [← HTT.out];exact (str_append _ _).trans (congrArg strOfNums HT.out)),below3 H0.out H1.out HB.out HB4.out⟩
set_option maxRecDepth 100000 in
set_option maxHeartbeats 1000000 in
theorem text_edd_p (s:ByteArray) (c r:Int) (k:Nat) (w:World) (htab:Tab w) (_hs:s.size≤1000000) (h0:s.size=0) (hm:mayL (sb s) c r=true) (hc0:0≤c) (hc1:c≤701) (hr0:0≤r) (hr1:r≤998) (hk:r+1=(k:Int)) (hz1:(strOfNums (colL c)).size≤2) (hz2:(strOfNums (digL k)).size≤1000) :
 Calls Tryz.prog 186 #[.agg #[.string s,.int .i64 c,.int .i64 r,.bool true,.bool true]] w fun e w'=>e = .returned (.string (strOfNums (textL (sb s) c r true true)))∧Below w.heap.size w w':=by
 have hk2:(r+1).toNat=k:=by omega
 have he:sb s=[]:=List.eq_nil_of_length_eq_zero (by rw [length_sb];exact h0)
 have ht:(((([])++[36])++sb (strOfNums (colL c)))++[36])++digL k=textL (sb s) c r true true:=by unfold textL;rw [if_pos hm,hk2,if_pos he,sb_colL];simp
 have HT:=Lib.hid ht;clear ht hk2 he
 obtain ⟨tt,htt⟩:∃ t,strOfNums (((([])++[36])++sb (strOfNums (colL c)))++[36])=t:=⟨_,rfl⟩
 have hzt:tt.size≤1000100:=by rw [← htt,strOfNums_size];simp only [List.length_append,List.length_nil,length_sb,List.length_cons];omega
 have HTT:=Lib.hid htt;clear htt
 have HSUM:=Lib.hid (show ¬ 9223372036854775807<tt.size+(strOfNums (digL k)).size by omega)
 have:=sb_nil s h0
 subst this
 clear h0
 have hR0:=RefAt.new w ⟨#[]⟩ c r true true
 have HR0:=Lib.hid hR0;clear hR0
 have H0:=Lib.hid ((Below.refl w.heap.size w).alloc (Nat.le_refl _) (.cells #[.string ⟨#[]⟩,.int .i64 c,.int .i64 r,.bool true,.bool true] 99))
 have HTAB:=Lib.hid htab;clear htab
 have hk9:k≤999:=by omega
 have hwr:IntKind.i64.wrap (r+1)=r+1:=by rw [IntKind.wrap_i64];omega
 have HK:=Lib.hid hk;clear hk
 go_enter Tryz.func186,Tryz.ntmps186
 go_wp2_with (first
  | (go_at_call 181;((with_reducible refine (may_any _ _ _ _ _ _ ?_).mono ?_);(first | omega | skip);rintro e w1 ⟨rfl,h1⟩;have hR1:=HR0.out.below h1 HR0.out.lt;obtain ⟨x0,x1,x2,x3,x4⟩:=hR1.facts;have HR1:=Lib.hid hR1;clear hR1;have HO:=Lib.hid (Own.nil (encInt .u8) 5 w1 w1.heap.size);have HB:=Lib.hid (Below.refl w1.heap.size w1);have H1:=Lib.hid h1;clear h1))
  | (at_builtin;refine wpList_app Elem.u8 (encInt .u8) rfl (.tmp 18) (.tmp 19) rfl w1.heap.size _ _ rfl (HO.out.alloc _) ⟨_,0,none⟩ 1 1 [36] rfl rfl ?_ ?_ ?_ ?_ ?_;exact cells_new _ _ _ rfl;(decide);(unfold maxLen;decide);(have:=HB.out.size;simp <;> omega);intro v3 w3 h1 h2;have HO:=Lib.hid h1;clear h1;have HB:=Lib.hid ((HB.out.alloc HB.out.size _).trans h2);clear h2;clear x0 x1 x2 x3 x4;obtain ⟨x0,x1,x2,x3,x4⟩:=(HR1.out.below (HB.out) HR1.out.lt).facts)
  | (go_at_call 202;((with_reducible refine (col_any _ ?_ ?_ _).mono ?_);(first | omega | skip);(first | omega | skip);rintro e w2 ⟨rfl,rfl⟩))
  | (at_builtin;refine wpList_app_src Elem.u8 (encInt .u8) rfl (.tmp 21) (.tmp 24) rfl w1.heap.size _ _ rfl HO.out (.string (strOfNums (colL c))) (strOfNums (colL c)).size (sb (strOfNums (colL c))) rfl (length_sb (strOfNums (colL c))) (src_text (strOfNums (colL c))) ?_ ?_ ?_ ?_;(simp only [List.length_nil,List.length_append,List.length_cons];omega);(simp only [List.length_nil,List.length_append,List.length_cons];unfold maxLen;omega);exact HB.out.size;intro v3 w3 h1 h2;have HO:=Lib.hid h1;clear h1;have HB:=Lib.hid (HB.out.trans h2);clear h2;clear x0 x1 x2 x3 x4;obtain ⟨x0,x1,x2,x3,x4⟩:=(HR1.out.below (HB.out) HR1.out.lt).facts)
  | (at_builtin;refine wpList_app Elem.u8 (encInt .u8) rfl (.tmp 28) (.tmp 29) rfl w1.heap.size _ _ rfl (HO.out.alloc _) ⟨_,0,none⟩ 1 1 [36] rfl rfl ?_ ?_ ?_ ?_ ?_;exact cells_new _ _ _ rfl;(simp only [List.length_nil,List.length_append,List.length_cons,length_sb];omega);(simp only [List.length_nil,List.length_append,List.length_cons,length_sb];unfold maxLen;omega);(have:=HB.out.size;simp <;> omega);intro v3 w3 h1 h2;have HO:=Lib.hid h1;clear h1;have HB:=Lib.hid ((HB.out.alloc HB.out.size _).trans h2);clear h2;clear x0 x1 x2 x3 x4;obtain ⟨x0,x1,x2,x3,x4⟩:=(HR1.out.below (HB.out) HR1.out.lt).facts))
 refine kept_start (by kernel_rfl) ?_
 show wpAnyH _ _ _ _ _ 8 #[false,false,false,false,false,false,false,false] _ _
 refine kept_take (i:=0) (d:=some 31) (fuel:=7) (listed':=#[true,false,false,false,false,false,false,false]) (v := ?_) rfl rfl (by kernel_rfl) (by kernel_rfl) (by kernel_rfl) rfl (fun _ _ _ h=>h) (by rfl) ?_ ?_
 rotate_left
 · (intro wS hSw;go_simp;try (with_reducible rfl))
 simp only [Act.put,sT,sZ,sS]
 refine kept_take (i:=1) (d:=some 32) (fuel:=6) (listed':=#[true,true,false,false,false,false,false,false]) (v := ?_) rfl rfl (by kernel_rfl) (by kernel_rfl) (by kernel_rfl) rfl (fun _ _ _ h=>h) (by rfl) ?_ ?_
 rotate_left
 · (intro wS hSw;have hz:=(fun W (hW:Below _ _ W)=>str8_eq HTT.out (Own.below (Own.drew HO.out) hW (Nat.le_refl _))) wS hSw;go_simp;try (with_reducible rfl))
 simp only [Act.put,sT,sZ,sS]
 refine kept_take (i:=2) (d:=some 33) (fuel:=5) (listed':=#[true,true,true,false,false,false,false,false]) (v := ?_) rfl rfl (by kernel_rfl) (by kernel_rfl) (by kernel_rfl) rfl (fun _ _ _ h=>h) (by rfl) ?_ ?_
 rotate_left
 · (intro wS hSw;go_simp;try (with_reducible rfl))
 simp only [Act.put,sT,sZ,sS]
 refine kept_take (i:=3) (d:=some 34) (fuel:=4) (listed':=#[true,true,true,true,false,false,false,false]) (v := ?_) rfl rfl (by kernel_rfl) (by kernel_rfl) (by kernel_rfl) rfl (fun _ _ _ h=>h) (by rfl) ?_ ?_
 rotate_left
 · (intro wS hSw;have hz:=(fun W (hW:Below _ _ W)=>((refDrew (HR1.out.below HB.out HR1.out.lt)).below hW (Nat.lt_of_lt_of_le HR1.out.lt HB.out.size)).facts) wS hSw;go_simp;try (with_reducible rfl))
 simp only [Act.put,sT,sZ,sS]
 refine kept_take (i:=4) (d:=some 35) (fuel:=3) (listed':=#[true,true,true,true,true,false,false,false]) (v := ?_) rfl rfl (by kernel_rfl) (by kernel_rfl) (by kernel_rfl) rfl (fun _ _ _ h=>h) (by rfl) ?_ ?_
 rotate_left
 · (intro wS hSw;go_simp;try (with_reducible rfl))
 simp only [Act.put,sT,sZ,sS]
 refine kept_call (i:=5) (d:=some 36) (fuel:=2) (listed':=#[true,true,true,true,true,true,false,false]) rfl rfl (by kernel_rfl) rfl (by rfl) (fun K hK => ?_)
 go_simp
 refine (itoa_eq HK.out (by omega) _ (Tab.drew (((HTAB.out.below H0.out).below H1.out).below HB.out))).mono ?_
 rintro e w4 ⟨rfl,hstep⟩
 have HB4:=Lib.hid (below_undrew hstep)
 go_wp2_with fail
 refine hK.out _ _ hstep hstep.size ?_
 clear hK K
 simp only [Act.put,sT,sZ,sS]
 refine kept_take (i:=6) (d:=some 37) (fuel:=1) (listed':=#[true,true,true,true,true,true,true,false]) (v := ?_) rfl rfl (by kernel_rfl) (by kernel_rfl) (by kernel_rfl) rfl (fun _ _ _ h=>h) (by rfl) ?_ ?_
 rotate_left
 · (intro wS hSw;have hz:=(fun (_:World) (_:Below _ _ _)=>HSUM.out) wS hSw;go_simp;try (with_reducible rfl))
 simp only [Act.put,sT,sZ,sS]
 refine kept_take (i:=7) (d:=some 2) (fuel:=0) (listed':=#[true,true,true,true,true,true,true,true]) (v := ?_) rfl rfl (by kernel_rfl) (by kernel_rfl) (by kernel_rfl) rfl (fun _ _ _ h=>h) (by rfl) ?_ ?_
 rotate_left
 · (intro wS hSw;go_simp;try (with_reducible rfl))
 simp only [Act.put,sT,sZ,sS]
 refine wpAnyH_done (by kernel_rfl) ?_ _
 go_wp2_with fail
 go_ret
 exact ⟨ret_str (by rw [← HTT.out];exact (str_append _ _).trans (congrArg strOfNums HT.out)),below3 H0.out H1.out HB.out HB4.out⟩
set_option maxRecDepth 100000 in
set_option maxHeartbeats 1000000 in
theorem text_snn_p (s:ByteArray) (c r:Int) (k:Nat) (w:World) (htab:Tab w) (_hs:s.size≤1000000) (h0:¬ s.size=0) (hm:mayL (sb s) c r=true) (hc0:0≤c) (hc1:c≤701) (hr0:0≤r) (hr1:r≤998) (hk:r+1=(k:Int)) (hz1:(strOfNums (colL c)).size≤2) (hz2:(strOfNums (digL k)).size≤1000) :
 Calls Tryz.prog 186 #[.agg #[.string s,.int .i64 c,.int .i64 r,.bool false,.bool false]] w fun e w'=>e = .returned (.string (strOfNums (textL (sb s) c r false false)))∧Below w.heap.size w w':=by
 have hk2:(r+1).toNat=k:=by omega
 have he:¬ sb s=[]:=by intro h;have:=length_sb s;rw [h] at this;exact h0 this.symm
 have ht:((([]++sb s)++[33])++sb (strOfNums (colL c)))++digL k=textL (sb s) c r false false:=by unfold textL;rw [if_pos hm,hk2,if_neg he,sb_colL];simp
 have HT:=Lib.hid ht;clear ht hk2 he
 obtain ⟨tt,htt⟩:∃ t,strOfNums ((([]++sb s)++[33])++sb (strOfNums (colL c)))=t:=⟨_,rfl⟩
 have hzt:tt.size≤1000100:=by rw [← htt,strOfNums_size];simp only [List.length_append,List.length_nil,length_sb,List.length_cons];omega
 have HTT:=Lib.hid htt;clear htt
 have HSUM:=Lib.hid (show ¬ 9223372036854775807<tt.size+(strOfNums (digL k)).size by omega)
 have hne:=text_ne0 s h0
 have hne2:s.toList.isEmpty=false:=by cases hq:s.toList with | nil=>exact absurd hq hne | cons a l=>rfl
 clear h0
 have hR0:=RefAt.new w s c r false false
 have HR0:=Lib.hid hR0;clear hR0
 have H0:=Lib.hid ((Below.refl w.heap.size w).alloc (Nat.le_refl _) (.cells #[.string s,.int .i64 c,.int .i64 r,.bool false,.bool false] 99))
 have HTAB:=Lib.hid htab;clear htab
 have hk9:k≤999:=by omega
 have hwr:IntKind.i64.wrap (r+1)=r+1:=by rw [IntKind.wrap_i64];omega
 have HK:=Lib.hid hk;clear hk
 go_enter Tryz.func186,Tryz.ntmps186
 go_wp2_with (first
  | (go_at_call 181;((with_reducible refine (may_any _ _ _ _ _ _ ?_).mono ?_);(first | omega | skip);rintro e w1 ⟨rfl,h1⟩;have hR1:=HR0.out.below h1 HR0.out.lt;obtain ⟨x0,x1,x2,x3,x4⟩:=hR1.facts;have HR1:=Lib.hid hR1;clear hR1;have HO:=Lib.hid (Own.nil (encInt .u8) 5 w1 w1.heap.size);have HB:=Lib.hid (Below.refl w1.heap.size w1);have H1:=Lib.hid h1;clear h1))
  | (at_builtin;refine wpList_app_src Elem.u8 (encInt .u8) rfl (.tmp 10) (.tmp 12) rfl w1.heap.size _ _ rfl HO.out (.string s) s.size (sb s) rfl (length_sb s) (src_text s) ?_ ?_ ?_ ?_;(simp only [List.length_nil];omega);(simp only [List.length_nil];unfold maxLen;omega);exact HB.out.size;intro v3 w3 h1 h2;have HO:=Lib.hid h1;clear h1;have HB:=Lib.hid (HB.out.trans h2);clear h2;clear x0 x1 x2 x3 x4;obtain ⟨x0,x1,x2,x3,x4⟩:=(HR1.out.below (HB.out) HR1.out.lt).facts)
  | (at_builtin;refine wpList_app Elem.u8 (encInt .u8) rfl (.tmp 13) (.tmp 14) rfl w1.heap.size _ _ rfl (HO.out.alloc _) ⟨_,0,none⟩ 1 1 [33] rfl rfl ?_ ?_ ?_ ?_ ?_;exact cells_new _ _ _ rfl;(simp only [List.length_nil,List.length_append,length_sb];omega);(simp only [List.length_nil,List.length_append,length_sb];unfold maxLen;omega);(have:=HB.out.size;simp <;> omega);intro v3 w3 h1 h2;have HO:=Lib.hid h1;clear h1;have HB:=Lib.hid ((HB.out.alloc HB.out.size _).trans h2);clear h2;clear x0 x1 x2 x3 x4;obtain ⟨x0,x1,x2,x3,x4⟩:=(HR1.out.below (HB.out) HR1.out.lt).facts)
  | (go_at_call 202;((with_reducible refine (col_any _ ?_ ?_ _).mono ?_);(first | omega | skip);(first | omega | skip);rintro e w2 ⟨rfl,rfl⟩))
  | (at_builtin;refine wpList_app_src Elem.u8 (encInt .u8) rfl (.tmp 21) (.tmp 24) rfl w1.heap.size _ _ rfl HO.out (.string (strOfNums (colL c))) (strOfNums (colL c)).size (sb (strOfNums (colL c))) rfl (length_sb (strOfNums (colL c))) (src_text (strOfNums (colL c))) ?_ ?_ ?_ ?_;(simp only [List.length_nil,List.length_append,List.length_cons,length_sb];omega);(simp only [List.length_nil,List.length_append,List.length_cons,length_sb];unfold maxLen;omega);exact HB.out.size;intro v3 w3 h1 h2;have HO:=Lib.hid h1;clear h1;have HB:=Lib.hid (HB.out.trans h2);clear h2;clear x0 x1 x2 x3 x4;obtain ⟨x0,x1,x2,x3,x4⟩:=(HR1.out.below (HB.out) HR1.out.lt).facts))
 refine kept_start (by kernel_rfl) ?_
 show wpAnyH _ _ _ _ _ 8 #[false,false,false,false,false,false,false,false] _ _
 refine kept_take (i:=0) (d:=some 31) (fuel:=7) (listed':=#[true,false,false,false,false,false,false,false]) (v := ?_) rfl rfl (by kernel_rfl) (by kernel_rfl) (by kernel_rfl) rfl (fun _ _ _ h=>h) (by rfl) ?_ ?_
 rotate_left
 · (intro wS hSw;go_simp;try (with_reducible rfl))
 simp only [Act.put,sT,sZ,sS]
 refine kept_take (i:=1) (d:=some 32) (fuel:=6) (listed':=#[true,true,false,false,false,false,false,false]) (v := ?_) rfl rfl (by kernel_rfl) (by kernel_rfl) (by kernel_rfl) rfl (fun _ _ _ h=>h) (by rfl) ?_ ?_
 rotate_left
 · (intro wS hSw;have hz:=(fun W (hW:Below _ _ W)=>str8_eq HTT.out (Own.below (Own.drew HO.out) hW (Nat.le_refl _))) wS hSw;go_simp;try (with_reducible rfl))
 simp only [Act.put,sT,sZ,sS]
 refine kept_take (i:=2) (d:=some 33) (fuel:=5) (listed':=#[true,true,true,false,false,false,false,false]) (v := ?_) rfl rfl (by kernel_rfl) (by kernel_rfl) (by kernel_rfl) rfl (fun _ _ _ h=>h) (by rfl) ?_ ?_
 rotate_left
 · (intro wS hSw;go_simp;try (with_reducible rfl))
 simp only [Act.put,sT,sZ,sS]
 refine kept_take (i:=3) (d:=some 34) (fuel:=4) (listed':=#[true,true,true,true,false,false,false,false]) (v := ?_) rfl rfl (by kernel_rfl) (by kernel_rfl) (by kernel_rfl) rfl (fun _ _ _ h=>h) (by rfl) ?_ ?_
 rotate_left
 · (intro wS hSw;have hz:=(fun W (hW:Below _ _ W)=>((refDrew (HR1.out.below HB.out HR1.out.lt)).below hW (Nat.lt_of_lt_of_le HR1.out.lt HB.out.size)).facts) wS hSw;go_simp;try (with_reducible rfl))
 simp only [Act.put,sT,sZ,sS]
 refine kept_take (i:=4) (d:=some 35) (fuel:=3) (listed':=#[true,true,true,true,true,false,false,false]) (v := ?_) rfl rfl (by kernel_rfl) (by kernel_rfl) (by kernel_rfl) rfl (fun _ _ _ h=>h) (by rfl) ?_ ?_
 rotate_left
 · (intro wS hSw;go_simp;try (with_reducible rfl))
 simp only [Act.put,sT,sZ,sS]
 refine kept_call (i:=5) (d:=some 36) (fuel:=2) (listed':=#[true,true,true,true,true,true,false,false]) rfl rfl (by kernel_rfl) rfl (by rfl) (fun K hK => ?_)
 go_simp
 refine (itoa_eq HK.out (by omega) _ (Tab.drew (((HTAB.out.below H0.out).below H1.out).below HB.out))).mono ?_
 rintro e w4 ⟨rfl,hstep⟩
 have HB4:=Lib.hid (below_undrew hstep)
 go_wp2_with fail
 refine hK.out _ _ hstep hstep.size ?_
 clear hK K
 simp only [Act.put,sT,sZ,sS]
 refine kept_take (i:=6) (d:=some 37) (fuel:=1) (listed':=#[true,true,true,true,true,true,true,false]) (v := ?_) rfl rfl (by kernel_rfl) (by kernel_rfl) (by kernel_rfl) rfl (fun _ _ _ h=>h) (by rfl) ?_ ?_
 rotate_left
 · (intro wS hSw;have hz:=(fun (_:World) (_:Below _ _ _)=>HSUM.out) wS hSw;go_simp;try (with_reducible rfl))
 simp only [Act.put,sT,sZ,sS]
 refine kept_take (i:=7) (d:=some 2) (fuel:=0) (listed':=#[true,true,true,true,true,true,true,true]) (v := ?_) rfl rfl (by kernel_rfl) (by kernel_rfl) (by kernel_rfl) rfl (fun _ _ _ h=>h) (by rfl) ?_ ?_
 rotate_left
 · (intro wS hSw;go_simp;try (with_reducible rfl))
 simp only [Act.put,sT,sZ,sS]
 refine wpAnyH_done (by kernel_rfl) ?_ _
 go_wp2_with fail
 go_ret
 exact ⟨ret_str (by rw [← HTT.out];exact (str_append _ _).trans (congrArg strOfNums HT.out)),below3 H0.out H1.out HB.out HB4.out⟩
set_option maxRecDepth 100000 in
set_option maxHeartbeats 1000000 in
theorem text_snd_p (s:ByteArray) (c r:Int) (k:Nat) (w:World) (htab:Tab w) (_hs:s.size≤1000000) (h0:¬ s.size=0) (hm:mayL (sb s) c r=true) (hc0:0≤c) (hc1:c≤701) (hr0:0≤r) (hr1:r≤998) (hk:r+1=(k:Int)) (hz1:(strOfNums (colL c)).size≤2) (hz2:(strOfNums (digL k)).size≤1000) :
 Calls Tryz.prog 186 #[.agg #[.string s,.int .i64 c,.int .i64 r,.bool false,.bool true]] w fun e w'=>e = .returned (.string (strOfNums (textL (sb s) c r false true)))∧Below w.heap.size w w':=by
 have hk2:(r+1).toNat=k:=by omega
 have he:¬ sb s=[]:=by intro h;have:=length_sb s;rw [h] at this;exact h0 this.symm
 have ht:(((([]++sb s)++[33])++sb (strOfNums (colL c)))++[36])++digL k=textL (sb s) c r false true:=by unfold textL;rw [if_pos hm,hk2,if_neg he,sb_colL];simp
 have HT:=Lib.hid ht;clear ht hk2 he
 obtain ⟨tt,htt⟩:∃ t,strOfNums (((([]++sb s)++[33])++sb (strOfNums (colL c)))++[36])=t:=⟨_,rfl⟩
 have hzt:tt.size≤1000100:=by rw [← htt,strOfNums_size];simp only [List.length_append,List.length_nil,length_sb,List.length_cons];omega
 have HTT:=Lib.hid htt;clear htt
 have HSUM:=Lib.hid (show ¬ 9223372036854775807<tt.size+(strOfNums (digL k)).size by omega)
 have hne:=text_ne0 s h0
 have hne2:s.toList.isEmpty=false:=by cases hq:s.toList with | nil=>exact absurd hq hne | cons a l=>rfl
 clear h0
 have hR0:=RefAt.new w s c r false true
 have HR0:=Lib.hid hR0;clear hR0
 have H0:=Lib.hid ((Below.refl w.heap.size w).alloc (Nat.le_refl _) (.cells #[.string s,.int .i64 c,.int .i64 r,.bool false,.bool true] 99))
 have HTAB:=Lib.hid htab;clear htab
 have hk9:k≤999:=by omega
 have hwr:IntKind.i64.wrap (r+1)=r+1:=by rw [IntKind.wrap_i64];omega
 have HK:=Lib.hid hk;clear hk
 go_enter Tryz.func186,Tryz.ntmps186
 go_wp2_with (first
  | (go_at_call 181;((with_reducible refine (may_any _ _ _ _ _ _ ?_).mono ?_);(first | omega | skip);rintro e w1 ⟨rfl,h1⟩;have hR1:=HR0.out.below h1 HR0.out.lt;obtain ⟨x0,x1,x2,x3,x4⟩:=hR1.facts;have HR1:=Lib.hid hR1;clear hR1;have HO:=Lib.hid (Own.nil (encInt .u8) 5 w1 w1.heap.size);have HB:=Lib.hid (Below.refl w1.heap.size w1);have H1:=Lib.hid h1;clear h1))
  | (at_builtin;refine wpList_app_src Elem.u8 (encInt .u8) rfl (.tmp 10) (.tmp 12) rfl w1.heap.size _ _ rfl HO.out (.string s) s.size (sb s) rfl (length_sb s) (src_text s) ?_ ?_ ?_ ?_;(simp only [List.length_nil];omega);(simp only [List.length_nil];unfold maxLen;omega);exact HB.out.size;intro v3 w3 h1 h2;have HO:=Lib.hid h1;clear h1;have HB:=Lib.hid (HB.out.trans h2);clear h2;clear x0 x1 x2 x3 x4;obtain ⟨x0,x1,x2,x3,x4⟩:=(HR1.out.below (HB.out) HR1.out.lt).facts)
  | (at_builtin;refine wpList_app Elem.u8 (encInt .u8) rfl (.tmp 13) (.tmp 14) rfl w1.heap.size _ _ rfl (HO.out.alloc _) ⟨_,0,none⟩ 1 1 [33] rfl rfl ?_ ?_ ?_ ?_ ?_;exact cells_new _ _ _ rfl;(simp only [List.length_nil,List.length_append,length_sb];omega);(simp only [List.length_nil,List.length_append,length_sb];unfold maxLen;omega);(have:=HB.out.size;simp <;> omega);intro v3 w3 h1 h2;have HO:=Lib.hid h1;clear h1;have HB:=Lib.hid ((HB.out.alloc HB.out.size _).trans h2);clear h2;clear x0 x1 x2 x3 x4;obtain ⟨x0,x1,x2,x3,x4⟩:=(HR1.out.below (HB.out) HR1.out.lt).facts)
  | (go_at_call 202;((with_reducible refine (col_any _ ?_ ?_ _).mono ?_);(first | omega | skip);(first | omega | skip);rintro e w2 ⟨rfl,rfl⟩))
  | (at_builtin;refine wpList_app_src Elem.u8 (encInt .u8) rfl (.tmp 21) (.tmp 24) rfl w1.heap.size _ _ rfl HO.out (.string (strOfNums (colL c))) (strOfNums (colL c)).size (sb (strOfNums (colL c))) rfl (length_sb (strOfNums (colL c))) (src_text (strOfNums (colL c))) ?_ ?_ ?_ ?_;(simp only [List.length_nil,List.length_append,List.length_cons,length_sb];omega);(simp only [List.length_nil,List.length_append,List.length_cons,length_sb];unfold maxLen;omega);exact HB.out.size;intro v3 w3 h1 h2;have HO:=Lib.hid h1;clear h1;have HB:=Lib.hid (HB.out.trans h2);clear h2;clear x0 x1 x2 x3 x4;obtain ⟨x0,x1,x2,x3,x4⟩:=(HR1.out.below (HB.out) HR1.out.lt).facts)
  | (at_builtin;refine wpList_app Elem.u8 (encInt .u8) rfl (.tmp 28) (.tmp 29) rfl w1.heap.size _ _ rfl (HO.out.alloc _) ⟨_,0,none⟩ 1 1 [36] rfl rfl ?_ ?_ ?_ ?_ ?_;exact cells_new _ _ _ rfl;(simp only [List.length_nil,List.length_append,List.length_cons,length_sb];omega);(simp only [List.length_nil,List.length_append,List.length_cons,length_sb];unfold maxLen;omega);(have:=HB.out.size;simp <;> omega);intro v3 w3 h1 h2;have HO:=Lib.hid h1;clear h1;have HB:=Lib.hid ((HB.out.alloc HB.out.size _).trans h2);clear h2;clear x0 x1 x2 x3 x4;obtain ⟨x0,x1,x2,x3,x4⟩:=(HR1.out.below (HB.out) HR1.out.lt).facts))
 refine kept_start (by kernel_rfl) ?_
 show wpAnyH _ _ _ _ _ 8 #[false,false,false,false,false,false,false,false] _ _
 refine kept_take (i:=0) (d:=some 31) (fuel:=7) (listed':=#[true,false,false,false,false,false,false,false]) (v := ?_) rfl rfl (by kernel_rfl) (by kernel_rfl) (by kernel_rfl) rfl (fun _ _ _ h=>h) (by rfl) ?_ ?_
 rotate_left
 · (intro wS hSw;go_simp;try (with_reducible rfl))
 simp only [Act.put,sT,sZ,sS]
 refine kept_take (i:=1) (d:=some 32) (fuel:=6) (listed':=#[true,true,false,false,false,false,false,false]) (v := ?_) rfl rfl (by kernel_rfl) (by kernel_rfl) (by kernel_rfl) rfl (fun _ _ _ h=>h) (by rfl) ?_ ?_
 rotate_left
 · (intro wS hSw;have hz:=(fun W (hW:Below _ _ W)=>str8_eq HTT.out (Own.below (Own.drew HO.out) hW (Nat.le_refl _))) wS hSw;go_simp;try (with_reducible rfl))
 simp only [Act.put,sT,sZ,sS]
 refine kept_take (i:=2) (d:=some 33) (fuel:=5) (listed':=#[true,true,true,false,false,false,false,false]) (v := ?_) rfl rfl (by kernel_rfl) (by kernel_rfl) (by kernel_rfl) rfl (fun _ _ _ h=>h) (by rfl) ?_ ?_
 rotate_left
 · (intro wS hSw;go_simp;try (with_reducible rfl))
 simp only [Act.put,sT,sZ,sS]
 refine kept_take (i:=3) (d:=some 34) (fuel:=4) (listed':=#[true,true,true,true,false,false,false,false]) (v := ?_) rfl rfl (by kernel_rfl) (by kernel_rfl) (by kernel_rfl) rfl (fun _ _ _ h=>h) (by rfl) ?_ ?_
 rotate_left
 · (intro wS hSw;have hz:=(fun W (hW:Below _ _ W)=>((refDrew (HR1.out.below HB.out HR1.out.lt)).below hW (Nat.lt_of_lt_of_le HR1.out.lt HB.out.size)).facts) wS hSw;go_simp;try (with_reducible rfl))
 simp only [Act.put,sT,sZ,sS]
 refine kept_take (i:=4) (d:=some 35) (fuel:=3) (listed':=#[true,true,true,true,true,false,false,false]) (v := ?_) rfl rfl (by kernel_rfl) (by kernel_rfl) (by kernel_rfl) rfl (fun _ _ _ h=>h) (by rfl) ?_ ?_
 rotate_left
 · (intro wS hSw;go_simp;try (with_reducible rfl))
 simp only [Act.put,sT,sZ,sS]
 refine kept_call (i:=5) (d:=some 36) (fuel:=2) (listed':=#[true,true,true,true,true,true,false,false]) rfl rfl (by kernel_rfl) rfl (by rfl) (fun K hK => ?_)
 go_simp
 refine (itoa_eq HK.out (by omega) _ (Tab.drew (((HTAB.out.below H0.out).below H1.out).below HB.out))).mono ?_
 rintro e w4 ⟨rfl,hstep⟩
 have HB4:=Lib.hid (below_undrew hstep)
 go_wp2_with fail
 refine hK.out _ _ hstep hstep.size ?_
 clear hK K
 simp only [Act.put,sT,sZ,sS]
 refine kept_take (i:=6) (d:=some 37) (fuel:=1) (listed':=#[true,true,true,true,true,true,true,false]) (v := ?_) rfl rfl (by kernel_rfl) (by kernel_rfl) (by kernel_rfl) rfl (fun _ _ _ h=>h) (by rfl) ?_ ?_
 rotate_left
 · (intro wS hSw;have hz:=(fun (_:World) (_:Below _ _ _)=>HSUM.out) wS hSw;go_simp;try (with_reducible rfl))
 simp only [Act.put,sT,sZ,sS]
 refine kept_take (i:=7) (d:=some 2) (fuel:=0) (listed':=#[true,true,true,true,true,true,true,true]) (v := ?_) rfl rfl (by kernel_rfl) (by kernel_rfl) (by kernel_rfl) rfl (fun _ _ _ h=>h) (by rfl) ?_ ?_
 rotate_left
 · (intro wS hSw;go_simp;try (with_reducible rfl))
 simp only [Act.put,sT,sZ,sS]
 refine wpAnyH_done (by kernel_rfl) ?_ _
 go_wp2_with fail
 go_ret
 exact ⟨ret_str (by rw [← HTT.out];exact (str_append _ _).trans (congrArg strOfNums HT.out)),below3 H0.out H1.out HB.out HB4.out⟩
set_option maxRecDepth 100000 in
set_option maxHeartbeats 1000000 in
theorem text_sdn_p (s:ByteArray) (c r:Int) (k:Nat) (w:World) (htab:Tab w) (_hs:s.size≤1000000) (h0:¬ s.size=0) (hm:mayL (sb s) c r=true) (hc0:0≤c) (hc1:c≤701) (hr0:0≤r) (hr1:r≤998) (hk:r+1=(k:Int)) (hz1:(strOfNums (colL c)).size≤2) (hz2:(strOfNums (digL k)).size≤1000) :
 Calls Tryz.prog 186 #[.agg #[.string s,.int .i64 c,.int .i64 r,.bool true,.bool false]] w fun e w'=>e = .returned (.string (strOfNums (textL (sb s) c r true false)))∧Below w.heap.size w w':=by
 have hk2:(r+1).toNat=k:=by omega
 have he:¬ sb s=[]:=by intro h;have:=length_sb s;rw [h] at this;exact h0 this.symm
 have ht:(((([]++sb s)++[33])++[36])++sb (strOfNums (colL c)))++digL k=textL (sb s) c r true false:=by unfold textL;rw [if_pos hm,hk2,if_neg he,sb_colL];simp
 have HT:=Lib.hid ht;clear ht hk2 he
 obtain ⟨tt,htt⟩:∃ t,strOfNums (((([]++sb s)++[33])++[36])++sb (strOfNums (colL c)))=t:=⟨_,rfl⟩
 have hzt:tt.size≤1000100:=by rw [← htt,strOfNums_size];simp only [List.length_append,List.length_nil,length_sb,List.length_cons];omega
 have HTT:=Lib.hid htt;clear htt
 have HSUM:=Lib.hid (show ¬ 9223372036854775807<tt.size+(strOfNums (digL k)).size by omega)
 have hne:=text_ne0 s h0
 have hne2:s.toList.isEmpty=false:=by cases hq:s.toList with | nil=>exact absurd hq hne | cons a l=>rfl
 clear h0
 have hR0:=RefAt.new w s c r true false
 have HR0:=Lib.hid hR0;clear hR0
 have H0:=Lib.hid ((Below.refl w.heap.size w).alloc (Nat.le_refl _) (.cells #[.string s,.int .i64 c,.int .i64 r,.bool true,.bool false] 99))
 have HTAB:=Lib.hid htab;clear htab
 have hk9:k≤999:=by omega
 have hwr:IntKind.i64.wrap (r+1)=r+1:=by rw [IntKind.wrap_i64];omega
 have HK:=Lib.hid hk;clear hk
 go_enter Tryz.func186,Tryz.ntmps186
 go_wp2_with (first
  | (go_at_call 181;((with_reducible refine (may_any _ _ _ _ _ _ ?_).mono ?_);(first | omega | skip);rintro e w1 ⟨rfl,h1⟩;have hR1:=HR0.out.below h1 HR0.out.lt;obtain ⟨x0,x1,x2,x3,x4⟩:=hR1.facts;have HR1:=Lib.hid hR1;clear hR1;have HO:=Lib.hid (Own.nil (encInt .u8) 5 w1 w1.heap.size);have HB:=Lib.hid (Below.refl w1.heap.size w1);have H1:=Lib.hid h1;clear h1))
  | (at_builtin;refine wpList_app_src Elem.u8 (encInt .u8) rfl (.tmp 10) (.tmp 12) rfl w1.heap.size _ _ rfl HO.out (.string s) s.size (sb s) rfl (length_sb s) (src_text s) ?_ ?_ ?_ ?_;(simp only [List.length_nil];omega);(simp only [List.length_nil];unfold maxLen;omega);exact HB.out.size;intro v3 w3 h1 h2;have HO:=Lib.hid h1;clear h1;have HB:=Lib.hid (HB.out.trans h2);clear h2;clear x0 x1 x2 x3 x4;obtain ⟨x0,x1,x2,x3,x4⟩:=(HR1.out.below (HB.out) HR1.out.lt).facts)
  | (at_builtin;refine wpList_app Elem.u8 (encInt .u8) rfl (.tmp 13) (.tmp 14) rfl w1.heap.size _ _ rfl (HO.out.alloc _) ⟨_,0,none⟩ 1 1 [33] rfl rfl ?_ ?_ ?_ ?_ ?_;exact cells_new _ _ _ rfl;(simp only [List.length_nil,List.length_append,length_sb];omega);(simp only [List.length_nil,List.length_append,length_sb];unfold maxLen;omega);(have:=HB.out.size;simp <;> omega);intro v3 w3 h1 h2;have HO:=Lib.hid h1;clear h1;have HB:=Lib.hid ((HB.out.alloc HB.out.size _).trans h2);clear h2;clear x0 x1 x2 x3 x4;obtain ⟨x0,x1,x2,x3,x4⟩:=(HR1.out.below (HB.out) HR1.out.lt).facts)
  | (at_builtin;refine wpList_app Elem.u8 (encInt .u8) rfl (.tmp 18) (.tmp 19) rfl w1.heap.size _ _ rfl (HO.out.alloc _) ⟨_,0,none⟩ 1 1 [36] rfl rfl ?_ ?_ ?_ ?_ ?_;exact cells_new _ _ _ rfl;(simp only [List.length_nil,List.length_append,List.length_cons,length_sb];omega);(simp only [List.length_nil,List.length_append,List.length_cons,length_sb];unfold maxLen;omega);(have:=HB.out.size;simp <;> omega);intro v3 w3 h1 h2;have HO:=Lib.hid h1;clear h1;have HB:=Lib.hid ((HB.out.alloc HB.out.size _).trans h2);clear h2;clear x0 x1 x2 x3 x4;obtain ⟨x0,x1,x2,x3,x4⟩:=(HR1.out.below (HB.out) HR1.out.lt).facts)
  | (go_at_call 202;((with_reducible refine (col_any _ ?_ ?_ _).mono ?_);(first | omega | skip);(first | omega | skip);rintro e w2 ⟨rfl,rfl⟩))
  | (at_builtin;refine wpList_app_src Elem.u8 (encInt .u8) rfl (.tmp 21) (.tmp 24) rfl w1.heap.size _ _ rfl HO.out (.string (strOfNums (colL c))) (strOfNums (colL c)).size (sb (strOfNums (colL c))) rfl (length_sb (strOfNums (colL c))) (src_text (strOfNums (colL c))) ?_ ?_ ?_ ?_;(simp only [List.length_nil,List.length_append,List.length_cons,length_sb];omega);(simp only [List.length_nil,List.length_append,List.length_cons,length_sb];unfold maxLen;omega);exact HB.out.size;intro v3 w3 h1 h2;have HO:=Lib.hid h1;clear h1;have HB:=Lib.hid (HB.out.trans h2);clear h2;clear x0 x1 x2 x3 x4;obtain ⟨x0,x1,x2,x3,x4⟩:=(HR1.out.below (HB.out) HR1.out.lt).facts))
 refine kept_start (by kernel_rfl) ?_
 show wpAnyH _ _ _ _ _ 8 #[false,false,false,false,false,false,false,false] _ _
 refine kept_take (i:=0) (d:=some 31) (fuel:=7) (listed':=#[true,false,false,false,false,false,false,false]) (v := ?_) rfl rfl (by kernel_rfl) (by kernel_rfl) (by kernel_rfl) rfl (fun _ _ _ h=>h) (by rfl) ?_ ?_
 rotate_left
 · (intro wS hSw;go_simp;try (with_reducible rfl))
 simp only [Act.put,sT,sZ,sS]
 refine kept_take (i:=1) (d:=some 32) (fuel:=6) (listed':=#[true,true,false,false,false,false,false,false]) (v := ?_) rfl rfl (by kernel_rfl) (by kernel_rfl) (by kernel_rfl) rfl (fun _ _ _ h=>h) (by rfl) ?_ ?_
 rotate_left
 · (intro wS hSw;have hz:=(fun W (hW:Below _ _ W)=>str8_eq HTT.out (Own.below (Own.drew HO.out) hW (Nat.le_refl _))) wS hSw;go_simp;try (with_reducible rfl))
 simp only [Act.put,sT,sZ,sS]
 refine kept_take (i:=2) (d:=some 33) (fuel:=5) (listed':=#[true,true,true,false,false,false,false,false]) (v := ?_) rfl rfl (by kernel_rfl) (by kernel_rfl) (by kernel_rfl) rfl (fun _ _ _ h=>h) (by rfl) ?_ ?_
 rotate_left
 · (intro wS hSw;go_simp;try (with_reducible rfl))
 simp only [Act.put,sT,sZ,sS]
 refine kept_take (i:=3) (d:=some 34) (fuel:=4) (listed':=#[true,true,true,true,false,false,false,false]) (v := ?_) rfl rfl (by kernel_rfl) (by kernel_rfl) (by kernel_rfl) rfl (fun _ _ _ h=>h) (by rfl) ?_ ?_
 rotate_left
 · (intro wS hSw;have hz:=(fun W (hW:Below _ _ W)=>((refDrew (HR1.out.below HB.out HR1.out.lt)).below hW (Nat.lt_of_lt_of_le HR1.out.lt HB.out.size)).facts) wS hSw;go_simp;try (with_reducible rfl))
 simp only [Act.put,sT,sZ,sS]
 refine kept_take (i:=4) (d:=some 35) (fuel:=3) (listed':=#[true,true,true,true,true,false,false,false]) (v := ?_) rfl rfl (by kernel_rfl) (by kernel_rfl) (by kernel_rfl) rfl (fun _ _ _ h=>h) (by rfl) ?_ ?_
 rotate_left
 · (intro wS hSw;go_simp;try (with_reducible rfl))
 simp only [Act.put,sT,sZ,sS]
 refine kept_call (i:=5) (d:=some 36) (fuel:=2) (listed':=#[true,true,true,true,true,true,false,false]) rfl rfl (by kernel_rfl) rfl (by rfl) (fun K hK => ?_)
 go_simp
 refine (itoa_eq HK.out (by omega) _ (Tab.drew (((HTAB.out.below H0.out).below H1.out).below HB.out))).mono ?_
 rintro e w4 ⟨rfl,hstep⟩
 have HB4:=Lib.hid (below_undrew hstep)
 go_wp2_with fail
 refine hK.out _ _ hstep hstep.size ?_
 clear hK K
 simp only [Act.put,sT,sZ,sS]
 refine kept_take (i:=6) (d:=some 37) (fuel:=1) (listed':=#[true,true,true,true,true,true,true,false]) (v := ?_) rfl rfl (by kernel_rfl) (by kernel_rfl) (by kernel_rfl) rfl (fun _ _ _ h=>h) (by rfl) ?_ ?_
 rotate_left
 · (intro wS hSw;have hz:=(fun (_:World) (_:Below _ _ _)=>HSUM.out) wS hSw;go_simp;try (with_reducible rfl))
 simp only [Act.put,sT,sZ,sS]
 refine kept_take (i:=7) (d:=some 2) (fuel:=0) (listed':=#[true,true,true,true,true,true,true,true]) (v := ?_) rfl rfl (by kernel_rfl) (by kernel_rfl) (by kernel_rfl) rfl (fun _ _ _ h=>h) (by rfl) ?_ ?_
 rotate_left
 · (intro wS hSw;go_simp;try (with_reducible rfl))
 simp only [Act.put,sT,sZ,sS]
 refine wpAnyH_done (by kernel_rfl) ?_ _
 go_wp2_with fail
 go_ret
 exact ⟨ret_str (by rw [← HTT.out];exact (str_append _ _).trans (congrArg strOfNums HT.out)),below3 H0.out H1.out HB.out HB4.out⟩
set_option maxRecDepth 100000 in
set_option maxHeartbeats 1000000 in
theorem text_sdd_p (s:ByteArray) (c r:Int) (k:Nat) (w:World) (htab:Tab w) (_hs:s.size≤1000000) (h0:¬ s.size=0) (hm:mayL (sb s) c r=true) (hc0:0≤c) (hc1:c≤701) (hr0:0≤r) (hr1:r≤998) (hk:r+1=(k:Int)) (hz1:(strOfNums (colL c)).size≤2) (hz2:(strOfNums (digL k)).size≤1000) :
 Calls Tryz.prog 186 #[.agg #[.string s,.int .i64 c,.int .i64 r,.bool true,.bool true]] w fun e w'=>e = .returned (.string (strOfNums (textL (sb s) c r true true)))∧Below w.heap.size w w':=by
 have hk2:(r+1).toNat=k:=by omega
 have he:¬ sb s=[]:=by intro h;have:=length_sb s;rw [h] at this;exact h0 this.symm
 have ht:((((([]++sb s)++[33])++[36])++sb (strOfNums (colL c)))++[36])++digL k=textL (sb s) c r true true:=by unfold textL;rw [if_pos hm,hk2,if_neg he,sb_colL];simp
 have HT:=Lib.hid ht;clear ht hk2 he
 obtain ⟨tt,htt⟩:∃ t,strOfNums ((((([]++sb s)++[33])++[36])++sb (strOfNums (colL c)))++[36])=t:=⟨_,rfl⟩
 have hzt:tt.size≤1000100:=by rw [← htt,strOfNums_size];simp only [List.length_append,List.length_nil,length_sb,List.length_cons];omega
 have HTT:=Lib.hid htt;clear htt
 have HSUM:=Lib.hid (show ¬ 9223372036854775807<tt.size+(strOfNums (digL k)).size by omega)
 have hne:=text_ne0 s h0
 have hne2:s.toList.isEmpty=false:=by cases hq:s.toList with | nil=>exact absurd hq hne | cons a l=>rfl
 clear h0
 have hR0:=RefAt.new w s c r true true
 have HR0:=Lib.hid hR0;clear hR0
 have H0:=Lib.hid ((Below.refl w.heap.size w).alloc (Nat.le_refl _) (.cells #[.string s,.int .i64 c,.int .i64 r,.bool true,.bool true] 99))
 have HTAB:=Lib.hid htab;clear htab
 have hk9:k≤999:=by omega
 have hwr:IntKind.i64.wrap (r+1)=r+1:=by rw [IntKind.wrap_i64];omega
 have HK:=Lib.hid hk;clear hk
 go_enter Tryz.func186,Tryz.ntmps186
 go_wp2_with (first
  | (go_at_call 181;((with_reducible refine (may_any _ _ _ _ _ _ ?_).mono ?_);(first | omega | skip);rintro e w1 ⟨rfl,h1⟩;have hR1:=HR0.out.below h1 HR0.out.lt;obtain ⟨x0,x1,x2,x3,x4⟩:=hR1.facts;have HR1:=Lib.hid hR1;clear hR1;have HO:=Lib.hid (Own.nil (encInt .u8) 5 w1 w1.heap.size);have HB:=Lib.hid (Below.refl w1.heap.size w1);have H1:=Lib.hid h1;clear h1))
  | (at_builtin;refine wpList_app_src Elem.u8 (encInt .u8) rfl (.tmp 10) (.tmp 12) rfl w1.heap.size _ _ rfl HO.out (.string s) s.size (sb s) rfl (length_sb s) (src_text s) ?_ ?_ ?_ ?_;(simp only [List.length_nil];omega);(simp only [List.length_nil];unfold maxLen;omega);exact HB.out.size;intro v3 w3 h1 h2;have HO:=Lib.hid h1;clear h1;have HB:=Lib.hid (HB.out.trans h2);clear h2;clear x0 x1 x2 x3 x4;obtain ⟨x0,x1,x2,x3,x4⟩:=(HR1.out.below (HB.out) HR1.out.lt).facts)
  | (at_builtin;refine wpList_app Elem.u8 (encInt .u8) rfl (.tmp 13) (.tmp 14) rfl w1.heap.size _ _ rfl (HO.out.alloc _) ⟨_,0,none⟩ 1 1 [33] rfl rfl ?_ ?_ ?_ ?_ ?_;exact cells_new _ _ _ rfl;(simp only [List.length_nil,List.length_append,length_sb];omega);(simp only [List.length_nil,List.length_append,length_sb];unfold maxLen;omega);(have:=HB.out.size;simp <;> omega);intro v3 w3 h1 h2;have HO:=Lib.hid h1;clear h1;have HB:=Lib.hid ((HB.out.alloc HB.out.size _).trans h2);clear h2;clear x0 x1 x2 x3 x4;obtain ⟨x0,x1,x2,x3,x4⟩:=(HR1.out.below (HB.out) HR1.out.lt).facts)
  | (at_builtin;refine wpList_app Elem.u8 (encInt .u8) rfl (.tmp 18) (.tmp 19) rfl w1.heap.size _ _ rfl (HO.out.alloc _) ⟨_,0,none⟩ 1 1 [36] rfl rfl ?_ ?_ ?_ ?_ ?_;exact cells_new _ _ _ rfl;(simp only [List.length_nil,List.length_append,List.length_cons,length_sb];omega);(simp only [List.length_nil,List.length_append,List.length_cons,length_sb];unfold maxLen;omega);(have:=HB.out.size;simp <;> omega);intro v3 w3 h1 h2;have HO:=Lib.hid h1;clear h1;have HB:=Lib.hid ((HB.out.alloc HB.out.size _).trans h2);clear h2;clear x0 x1 x2 x3 x4;obtain ⟨x0,x1,x2,x3,x4⟩:=(HR1.out.below (HB.out) HR1.out.lt).facts)
  | (go_at_call 202;((with_reducible refine (col_any _ ?_ ?_ _).mono ?_);(first | omega | skip);(first | omega | skip);rintro e w2 ⟨rfl,rfl⟩))
  | (at_builtin;refine wpList_app_src Elem.u8 (encInt .u8) rfl (.tmp 21) (.tmp 24) rfl w1.heap.size _ _ rfl HO.out (.string (strOfNums (colL c))) (strOfNums (colL c)).size (sb (strOfNums (colL c))) rfl (length_sb (strOfNums (colL c))) (src_text (strOfNums (colL c))) ?_ ?_ ?_ ?_;(simp only [List.length_nil,List.length_append,List.length_cons,length_sb];omega);(simp only [List.length_nil,List.length_append,List.length_cons,length_sb];unfold maxLen;omega);exact HB.out.size;intro v3 w3 h1 h2;have HO:=Lib.hid h1;clear h1;have HB:=Lib.hid (HB.out.trans h2);clear h2;clear x0 x1 x2 x3 x4;obtain ⟨x0,x1,x2,x3,x4⟩:=(HR1.out.below (HB.out) HR1.out.lt).facts)
  | (at_builtin;refine wpList_app Elem.u8 (encInt .u8) rfl (.tmp 28) (.tmp 29) rfl w1.heap.size _ _ rfl (HO.out.alloc _) ⟨_,0,none⟩ 1 1 [36] rfl rfl ?_ ?_ ?_ ?_ ?_;exact cells_new _ _ _ rfl;(simp only [List.length_nil,List.length_append,List.length_cons,length_sb];omega);(simp only [List.length_nil,List.length_append,List.length_cons,length_sb];unfold maxLen;omega);(have:=HB.out.size;simp <;> omega);intro v3 w3 h1 h2;have HO:=Lib.hid h1;clear h1;have HB:=Lib.hid ((HB.out.alloc HB.out.size _).trans h2);clear h2;clear x0 x1 x2 x3 x4;obtain ⟨x0,x1,x2,x3,x4⟩:=(HR1.out.below (HB.out) HR1.out.lt).facts))
 refine kept_start (by kernel_rfl) ?_
 show wpAnyH _ _ _ _ _ 8 #[false,false,false,false,false,false,false,false] _ _
 refine kept_take (i:=0) (d:=some 31) (fuel:=7) (listed':=#[true,false,false,false,false,false,false,false]) (v := ?_) rfl rfl (by kernel_rfl) (by kernel_rfl) (by kernel_rfl) rfl (fun _ _ _ h=>h) (by rfl) ?_ ?_
 rotate_left
 · (intro wS hSw;go_simp;try (with_reducible rfl))
 simp only [Act.put,sT,sZ,sS]
 refine kept_take (i:=1) (d:=some 32) (fuel:=6) (listed':=#[true,true,false,false,false,false,false,false]) (v := ?_) rfl rfl (by kernel_rfl) (by kernel_rfl) (by kernel_rfl) rfl (fun _ _ _ h=>h) (by rfl) ?_ ?_
 rotate_left
 · (intro wS hSw;have hz:=(fun W (hW:Below _ _ W)=>str8_eq HTT.out (Own.below (Own.drew HO.out) hW (Nat.le_refl _))) wS hSw;go_simp;try (with_reducible rfl))
 simp only [Act.put,sT,sZ,sS]
 refine kept_take (i:=2) (d:=some 33) (fuel:=5) (listed':=#[true,true,true,false,false,false,false,false]) (v := ?_) rfl rfl (by kernel_rfl) (by kernel_rfl) (by kernel_rfl) rfl (fun _ _ _ h=>h) (by rfl) ?_ ?_
 rotate_left
 · (intro wS hSw;go_simp;try (with_reducible rfl))
 simp only [Act.put,sT,sZ,sS]
 refine kept_take (i:=3) (d:=some 34) (fuel:=4) (listed':=#[true,true,true,true,false,false,false,false]) (v := ?_) rfl rfl (by kernel_rfl) (by kernel_rfl) (by kernel_rfl) rfl (fun _ _ _ h=>h) (by rfl) ?_ ?_
 rotate_left
 · (intro wS hSw;have hz:=(fun W (hW:Below _ _ W)=>((refDrew (HR1.out.below HB.out HR1.out.lt)).below hW (Nat.lt_of_lt_of_le HR1.out.lt HB.out.size)).facts) wS hSw;go_simp;try (with_reducible rfl))
 simp only [Act.put,sT,sZ,sS]
 refine kept_take (i:=4) (d:=some 35) (fuel:=3) (listed':=#[true,true,true,true,true,false,false,false]) (v := ?_) rfl rfl (by kernel_rfl) (by kernel_rfl) (by kernel_rfl) rfl (fun _ _ _ h=>h) (by rfl) ?_ ?_
 rotate_left
 · (intro wS hSw;go_simp;try (with_reducible rfl))
 simp only [Act.put,sT,sZ,sS]
 refine kept_call (i:=5) (d:=some 36) (fuel:=2) (listed':=#[true,true,true,true,true,true,false,false]) rfl rfl (by kernel_rfl) rfl (by rfl) (fun K hK => ?_)
 go_simp
 refine (itoa_eq HK.out (by omega) _ (Tab.drew (((HTAB.out.below H0.out).below H1.out).below HB.out))).mono ?_
 rintro e w4 ⟨rfl,hstep⟩
 have HB4:=Lib.hid (below_undrew hstep)
 go_wp2_with fail
 refine hK.out _ _ hstep hstep.size ?_
 clear hK K
 simp only [Act.put,sT,sZ,sS]
 refine kept_take (i:=6) (d:=some 37) (fuel:=1) (listed':=#[true,true,true,true,true,true,true,false]) (v := ?_) rfl rfl (by kernel_rfl) (by kernel_rfl) (by kernel_rfl) rfl (fun _ _ _ h=>h) (by rfl) ?_ ?_
 rotate_left
 · (intro wS hSw;have hz:=(fun (_:World) (_:Below _ _ _)=>HSUM.out) wS hSw;go_simp;try (with_reducible rfl))
 simp only [Act.put,sT,sZ,sS]
 refine kept_take (i:=7) (d:=some 2) (fuel:=0) (listed':=#[true,true,true,true,true,true,true,true]) (v := ?_) rfl rfl (by kernel_rfl) (by kernel_rfl) (by kernel_rfl) rfl (fun _ _ _ h=>h) (by rfl) ?_ ?_
 rotate_left
 · (intro wS hSw;go_simp;try (with_reducible rfl))
 simp only [Act.put,sT,sZ,sS]
 refine wpAnyH_done (by kernel_rfl) ?_ _
 go_wp2_with fail
 go_ret
 exact ⟨ret_str (by rw [← HTT.out];exact (str_append _ _).trans (congrArg strOfNums HT.out)),below3 H0.out H1.out HB.out HB4.out⟩
set_option maxRecDepth 100000 in
set_option maxHeartbeats 400000 in
theorem textP_any (s:ByteArray) (c r:Int) (ac ar:Bool) (w:World) (htab:Tab w) (_hs:s.size≤1000000) :
 Calls Tryz.prog 186 #[.agg #[.string s,.int .i64 c,.int .i64 r,.bool ac,.bool ar]] w fun e w'=>e = .returned (.string (strOfNums (textL (sb s) c r ac ar)))∧Below w.heap.size w w':=by
 by_cases hm:mayL (sb s) c r=true
 · obtain ⟨hc0,hc1,hr0,hr1⟩:=mayL_parts hm
   have hl1:=length_colL c
   obtain ⟨k,hk⟩:∃ k:Nat,r+1=(k:Int):=⟨(r+1).toNat,by omega⟩
   have hl2:=length_digL k
   have hz1:(strOfNums (colL c)).size≤2:=by rw [strOfNums_size];exact hl1
   have hz2:(strOfNums (digL k)).size≤1000:=by rw [strOfNums_size];omega
   by_cases h0:s.size=0
   · cases ac <;> cases ar
     · exact text_enn_p s c r k w htab _hs h0 hm hc0 hc1 hr0 hr1 hk hz1 hz2
     · exact text_end_p s c r k w htab _hs h0 hm hc0 hc1 hr0 hr1 hk hz1 hz2
     · exact text_edn_p s c r k w htab _hs h0 hm hc0 hc1 hr0 hr1 hk hz1 hz2
     · exact text_edd_p s c r k w htab _hs h0 hm hc0 hc1 hr0 hr1 hk hz1 hz2
   · cases ac <;> cases ar
     · exact text_snn_p s c r k w htab _hs h0 hm hc0 hc1 hr0 hr1 hk hz1 hz2
     · exact text_snd_p s c r k w htab _hs h0 hm hc0 hc1 hr0 hr1 hk hz1 hz2
     · exact text_sdn_p s c r k w htab _hs h0 hm hc0 hc1 hr0 hr1 hk hz1 hz2
     · exact text_sdd_p s c r k w htab _hs h0 hm hc0 hc1 hr0 hr1 hk hz1 hz2
 · have hm':mayL (sb s) c r=false:=by simpa using hm
   have ht:textL (sb s) c r ac ar=[]:=by unfold textL;rw [if_neg hm]
   have HT:=Lib.hid ht;clear ht hm htab
   go_enter Tryz.func186,Tryz.ntmps186
   go_wp2_with (first
    | (go_at_call 181;((with_reducible refine (may_any _ _ _ _ _ _ ?_).mono ?_);(first | omega | skip);rintro e w1 ⟨rfl,h1⟩;have H1:=Lib.hid h1;clear h1)))
   go_ret
   exact ⟨by rw [HT.out];rfl,((Below.refl _ _).alloc (Nat.le_refl _) _).trans (H1.out.mono ((Below.refl _ _).alloc (Nat.le_refl _) _).size)⟩
set_option maxRecDepth 100000 in
set_option maxHeartbeats 4000000 in
theorem number_node (w:World) (b:Nat) (nv:Value) (st:List Pt) (txt:List Int) (n:Nd) (A:Option Addr) (m c:Nat) (h:WQ w b nv st txt) (hk:n.kind=1) (u:Nat) (hu:n.num=(u:Int)) (hu9:u≤9223372036854775807) (htab:Tab w) (hl:txt.length≤1000000000) :
 Calls Tryz.prog 145 #[.pointer (some ⟨b,0,none⟩),.agg #[.int .i64 n.kind,.int .i64 n.num,.string n.text,.string n.ref.sh,.int .i64 n.ref.c,.int .i64 n.ref.r,.bool n.ref.ac,.bool n.ref.ar,.string n.to.sh,.int .i64 n.to.c,.int .i64 n.to.r,.bool n.to.ac,.bool n.to.ar,.slice A m c]] w (Wrote w b nv st txt n):=by
 have hB:Below w.heap.size w (w.alloc (.cells #[.int .i64 n.kind,.int .i64 n.num,.string n.text,.string n.ref.sh,.int .i64 n.ref.c,.int .i64 n.ref.r,.bool n.ref.ac,.bool n.ref.ar,.string n.to.sh,.int .i64 n.to.c,.int .i64 n.to.r,.bool n.to.ac,.bool n.to.ar,.slice A m c] 140)):=(Below.refl _ _).alloc (Nat.le_refl _) _
 have HN:NdAt (w.alloc (.cells #[.int .i64 n.kind,.int .i64 n.num,.string n.text,.string n.ref.sh,.int .i64 n.ref.c,.int .i64 n.ref.r,.bool n.ref.ac,.bool n.ref.ar,.string n.to.sh,.int .i64 n.to.c,.int .i64 n.to.r,.bool n.to.ac,.bool n.to.ar,.slice A m c] 140)) w.heap.size n (.slice A m c):=NdAt.new w n _
 have hs:stepN n=(digL u,[]):=by unfold stepN;rw [if_pos hk,hu];rfl
 have hdl:=digL_len 18 u (by omega)
 have hbw:b<w.heap.size:=by obtain ⟨wv,h1, -⟩:=h;exact h1.lt
 have HS:=Lib.hid hs
 have HB:=Lib.hid hB
 obtain ⟨wv,h1,h2⟩:=h.below hB
 have HTAB:=Lib.hid (htab.below hB)
 have HHU:=Lib.hid hu
 clear h hs hk htab hB hu
 go_enter Tryz.func145,Tryz.ntmps145
 go_upto_region 1 with (fail)
 generalize hz:w.heap.size=z at HN ⊢
 generalize w.alloc (.cells #[.int .i64 n.kind,.int .i64 n.num,.string n.text,.string n.ref.sh,.int .i64 n.ref.c,.int .i64 n.ref.r,.bool n.ref.ac,.bool n.ref.ar,.string n.to.sh,.int .i64 n.to.c,.int .i64 n.to.r,.bool n.to.ac,.bool n.to.ar,.slice A m c] 140)=w1 at HN HB HTAB h1 h2 ⊢
 have x1:=HN.cells.2.1
 rw [HHU.out] at x1
 have hzl:=HN.lt
 have hzb:z≠b:=by omega
 have HN2:=Lib.hid HN
 have HI:=Lib.hid (fun wr (hr:Below w1.heap.size w1 wr)=>itoa_any u hu9 wr (HTAB.out.below hr))
 have HW:=Lib.hid (fun wr (hr:Below w1.heap.size w1 wr)=>write_any wr b nv wv txt (strOfNums (digL u)) (h1.below hr) (by rw [strOfNums_size];omega))
 have HO:=Lib.hid h2
 clear hz h1 h2 HN hdl
 have H1:=Lib.hid ((Below.refl w1.heap.size w1).drew)
 go_region_held3 (fun w'=>w'.cell? ⟨z,1,none⟩=some (.int .i64 (u:Int))) (go_keep) (first
  | (go_at_call 59;((with_reducible refine (HI.out _ H1.out).mono ?_);rintro e w3 ⟨rfl,h3⟩;have H3:=Lib.hid (H1.out.trans (h3.mono H1.out.size));have y1:=(H3.out.cell (p:=⟨z,1,none⟩) hzl).trans x1;clear h3))
  | (go_at_call 110;((with_reducible refine (HW.out _ H3.out).mono ?_);rintro e w4 ⟨⟨x,rfl⟩,h3,h4⟩;have HWS:=Lib.hid h3;have HF:=Lib.hid h4;have z1:w4.cell? ⟨z,1,none⟩=some (.int .i64 (u:Int)):=(World.cell?_of_block (a:=⟨z,1,none⟩) (HF.out.block z (Nat.lt_of_lt_of_le hzl H3.out.size) hzb (.inr fun cur fr e=>by
      have h5:=H3.out.block z hzl
      have h6:w1.heap[z]? = some (.cells (nodA n (.slice A m c)) 140):=HN2.out
      rw [h5,h6] at e;injection e with e;injection e with _ e2;exact absurd e2 (by decide)))).trans y1;clear h3 h4)))
 all_goals go_wp2_with fail
 all_goals go_end0
 all_goals exact Wrote.of (HB.out.trans (H3.out.mono HB.out.size)) (HO.out.below H3.out (Nat.le_refl _)) HWS.out HF.out (by rw [HS.out]) (by rw [HS.out,show sb (strOfNums (digL u))=digL u from sb_str _ (fun x hx=>by have:=num_bd (isNum_digL u x hx);omega)])
set_option maxRecDepth 100000 in
set_option maxHeartbeats 4000000 in
theorem place_node (w:World) (b:Nat) (nv:Value) (st:List Pt) (txt:List Int) (n:Nd) (A:Option Addr) (m c:Nat) (h:WQ w b nv st txt) (hk:n.kind=5) (hz:n.ref.sh.size≤1000000) (htab:Tab w) (hl:txt.length≤1000000000) :
 Calls Tryz.prog 149 #[.pointer (some ⟨b,0,none⟩),.agg #[.int .i64 n.kind,.int .i64 n.num,.string n.text,.string n.ref.sh,.int .i64 n.ref.c,.int .i64 n.ref.r,.bool n.ref.ac,.bool n.ref.ar,.string n.to.sh,.int .i64 n.to.c,.int .i64 n.to.r,.bool n.to.ac,.bool n.to.ar,.slice A m c]] w (Wrote w b nv st txt n):=by
 have hB:Below w.heap.size w (w.alloc (.cells #[.int .i64 n.kind,.int .i64 n.num,.string n.text,.string n.ref.sh,.int .i64 n.ref.c,.int .i64 n.ref.r,.bool n.ref.ac,.bool n.ref.ar,.string n.to.sh,.int .i64 n.to.c,.int .i64 n.to.r,.bool n.to.ac,.bool n.to.ar,.slice A m c] 140)):=(Below.refl _ _).alloc (Nat.le_refl _) _
 have HN:NdAt (w.alloc (.cells #[.int .i64 n.kind,.int .i64 n.num,.string n.text,.string n.ref.sh,.int .i64 n.ref.c,.int .i64 n.ref.r,.bool n.ref.ac,.bool n.ref.ar,.string n.to.sh,.int .i64 n.to.c,.int .i64 n.to.r,.bool n.to.ac,.bool n.to.ar,.slice A m c] 140)) w.heap.size n (.slice A m c):=NdAt.new w n _
 have hs:stepN n=(textL (sb n.ref.sh) n.ref.c n.ref.r n.ref.ac n.ref.ar,[]):=by unfold stepN;rw [if_neg (by omega),if_neg (by omega),if_neg (by omega),if_neg (by omega),if_pos hk]
 have hdl:=textL_len (sb n.ref.sh) n.ref.c n.ref.r n.ref.ac n.ref.ar
 rw [length_sb] at hdl
 have hbw:b<w.heap.size:=by obtain ⟨wv,h1, -⟩:=h;exact h1.lt
 have HS:=Lib.hid hs
 have HB:=Lib.hid hB
 obtain ⟨wv,h1,h2⟩:=h.below hB
 have HTAB:=Lib.hid (htab.below hB)
 clear h hs hk htab hB
 go_enter Tryz.func149,Tryz.ntmps149
 go_upto_region 1 with (fail)
 generalize hzz:w.heap.size=z at HN ⊢
 generalize w.alloc (.cells #[.int .i64 n.kind,.int .i64 n.num,.string n.text,.string n.ref.sh,.int .i64 n.ref.c,.int .i64 n.ref.r,.bool n.ref.ac,.bool n.ref.ar,.string n.to.sh,.int .i64 n.to.c,.int .i64 n.to.r,.bool n.to.ac,.bool n.to.ar,.slice A m c] 140)=w1 at HN HB HTAB h1 h2 ⊢
 obtain ⟨-, -, -,x3,x4,x5,x6,x7, -⟩:=HN.cells
 have hzl:=HN.lt
 have hzb:z≠b:=by omega
 have HN2:=Lib.hid HN
 have HI:=Lib.hid (fun wr (hr:Below w1.heap.size w1 wr)=>textP_any n.ref.sh n.ref.c n.ref.r n.ref.ac n.ref.ar wr (HTAB.out.below hr) hz)
 have HW:=Lib.hid (fun wr (hr:Below w1.heap.size w1 wr)=>write_any wr b nv wv txt (strOfNums (textL (sb n.ref.sh) n.ref.c n.ref.r n.ref.ac n.ref.ar)) (h1.below hr) (by rw [strOfNums_size];omega))
 have HO:=Lib.hid h2
 clear hzz h1 h2 HN hdl
 have H1:=Lib.hid ((Below.refl w1.heap.size w1).drew)
 go_region_held3 (fun w'=>w'.cell? ⟨z,3,none⟩=some (.string n.ref.sh)∧w'.cell? ⟨z,4,none⟩=some (.int .i64 n.ref.c)∧w'.cell? ⟨z,5,none⟩=some (.int .i64 n.ref.r)∧w'.cell? ⟨z,6,none⟩=some (.bool n.ref.ac)∧w'.cell? ⟨z,7,none⟩=some (.bool n.ref.ar)) (go_keep) (first
  | (go_at_call 186;((with_reducible refine (HI.out _ H1.out).mono ?_);rintro e w3 ⟨rfl,h3⟩;have H3:=Lib.hid (H1.out.trans (h3.mono H1.out.size));have y3:=(H3.out.cell (p:=⟨z,3,none⟩) hzl).trans x3;have y4:=(H3.out.cell (p:=⟨z,4,none⟩) hzl).trans x4;have y5:=(H3.out.cell (p:=⟨z,5,none⟩) hzl).trans x5;have y6:=(H3.out.cell (p:=⟨z,6,none⟩) hzl).trans x6;have y7:=(H3.out.cell (p:=⟨z,7,none⟩) hzl).trans x7;clear h3))
  | (go_at_call 110;((with_reducible refine (HW.out _ H3.out).mono ?_);rintro e w4 ⟨⟨x,rfl⟩,h3,h4⟩;have HWS:=Lib.hid h3;have HF:=Lib.hid h4;have hzk:=HF.out.block z (Nat.lt_of_lt_of_le hzl H3.out.size) hzb (.inr fun cur fr e=>by
      have h5:=H3.out.block z hzl
      have h6:w1.heap[z]? = some (.cells (nodA n (.slice A m c)) 140):=HN2.out
      rw [h5,h6] at e;injection e with e;injection e with _ e2;exact absurd e2 (by decide));have z3:=(World.cell?_of_block (a:=⟨z,3,none⟩) hzk).trans y3;have z4:=(World.cell?_of_block (a:=⟨z,4,none⟩) hzk).trans y4;have z5:=(World.cell?_of_block (a:=⟨z,5,none⟩) hzk).trans y5;have z6:=(World.cell?_of_block (a:=⟨z,6,none⟩) hzk).trans y6;have z7:=(World.cell?_of_block (a:=⟨z,7,none⟩) hzk).trans y7;clear h3 h4)))
 all_goals go_wp2_with fail
 all_goals go_end0
 all_goals exact Wrote.of (HB.out.trans (H3.out.mono HB.out.size)) (HO.out.below H3.out (Nat.le_refl _)) HWS.out HF.out (by rw [HS.out]) (by rw [HS.out,show sb (strOfNums (textL (sb n.ref.sh) n.ref.c n.ref.r n.ref.ac n.ref.ar))=textL (sb n.ref.sh) n.ref.c n.ref.r n.ref.ac n.ref.ar from sb_str _ (bytes_textL _ _ _ _ _)])
set_option maxRecDepth 100000 in
set_option maxHeartbeats 4000000 in
theorem places_node (w:World) (b:Nat) (nv:Value) (st:List Pt) (txt:List Int) (n:Nd) (A:Option Addr) (m c:Nat) (h:WQ w b nv st txt) (hk:n.kind=6) (hz:n.ref.sh.size≤1000000) (hz2:n.to.sh.size≤1000000) (htab:Tab w) (hl:txt.length≤1000000000) :
 Calls Tryz.prog 150 #[.pointer (some ⟨b,0,none⟩),.agg #[.int .i64 n.kind,.int .i64 n.num,.string n.text,.string n.ref.sh,.int .i64 n.ref.c,.int .i64 n.ref.r,.bool n.ref.ac,.bool n.ref.ar,.string n.to.sh,.int .i64 n.to.c,.int .i64 n.to.r,.bool n.to.ac,.bool n.to.ar,.slice A m c]] w (Wrote w b nv st txt n):=by
 have hB:Below w.heap.size w (w.alloc (.cells #[.int .i64 n.kind,.int .i64 n.num,.string n.text,.string n.ref.sh,.int .i64 n.ref.c,.int .i64 n.ref.r,.bool n.ref.ac,.bool n.ref.ar,.string n.to.sh,.int .i64 n.to.c,.int .i64 n.to.r,.bool n.to.ac,.bool n.to.ar,.slice A m c] 140)):=(Below.refl _ _).alloc (Nat.le_refl _) _
 have HN:NdAt (w.alloc (.cells #[.int .i64 n.kind,.int .i64 n.num,.string n.text,.string n.ref.sh,.int .i64 n.ref.c,.int .i64 n.ref.r,.bool n.ref.ac,.bool n.ref.ar,.string n.to.sh,.int .i64 n.to.c,.int .i64 n.to.r,.bool n.to.ac,.bool n.to.ar,.slice A m c] 140)) w.heap.size n (.slice A m c):=NdAt.new w n _
 have hs:stepN n=(textL (sb n.ref.sh) n.ref.c n.ref.r n.ref.ac n.ref.ar++58 :: textL (sb n.to.sh) n.to.c n.to.r n.to.ac n.to.ar,[]):=by unfold stepN;rw [if_neg (by omega),if_neg (by omega),if_neg (by omega),if_neg (by omega),if_neg (by omega),if_pos hk]
 have d1:=textL_len (sb n.ref.sh) n.ref.c n.ref.r n.ref.ac n.ref.ar
 have d2:=textL_len (sb n.to.sh) n.to.c n.to.r n.to.ac n.to.ar
 rw [length_sb] at d1 d2
 have hbw:b<w.heap.size:=by obtain ⟨wv,h1, -⟩:=h;exact h1.lt
 have y1:=bytes_textL n.ref.sh n.ref.c n.ref.r n.ref.ac n.ref.ar
 have y2:=bytes_textL n.to.sh n.to.c n.to.r n.to.ac n.to.ar
 have i1:=fun (wr:World) (ht:Tab wr)=>textP_any n.ref.sh n.ref.c n.ref.r n.ref.ac n.ref.ar wr ht hz
 have i2:=fun (wr:World) (ht:Tab wr)=>textP_any n.to.sh n.to.c n.to.r n.to.ac n.to.ar wr ht hz2
 generalize textL (sb n.ref.sh) n.ref.c n.ref.r n.ref.ac n.ref.ar=l1 at hs d1 y1 i1
 generalize textL (sb n.to.sh) n.to.c n.to.r n.to.ac n.to.ar=l2 at hs d2 y2 i2
 have f1:¬ 9223372036854775807<(strOfNums l1).size+(⟨#[58]⟩:ByteArray).size:=by rw [strOfNums_size];show ¬ _<_+1;omega
 have f2:¬ 9223372036854775807<(strOfNums l1).size+1:=by rw [strOfNums_size];omega
 have f3:(strOfNums l1++(⟨#[58]⟩:ByteArray)).size=l1.length+1:=by rw [ByteArray.size_append,strOfNums_size];rfl
 have f4:¬ 9223372036854775807<(strOfNums l1++(⟨#[58]⟩:ByteArray)).size+(strOfNums l2).size:=by rw [f3,strOfNums_size];omega
 have f5:¬ 9223372036854775807<(strOfNums l1).size+1+(strOfNums l2).size:=by rw [strOfNums_size,strOfNums_size];omega
 have HTX:=Lib.hid (show strOfNums l1++(⟨#[58]⟩:ByteArray)++strOfNums l2=strOfNums (l1++58 :: l2) by
  rw [show (⟨#[58]⟩:ByteArray)=strOfNums [58] from by decide,str_append,str_append,List.append_assoc];rfl)
 have HS:=Lib.hid hs
 have HB:=Lib.hid hB
 obtain ⟨wv,h1,h2⟩:=h.below hB
 have HTAB:=Lib.hid (htab.below hB)
 clear h hs hk htab hB
 go_enter Tryz.func150,Tryz.ntmps150
 go_upto_region 1 with (fail)
 obtain ⟨z,hzz⟩:∃ z,w.heap.size=z:=⟨_,rfl⟩
 obtain ⟨w1,hw1⟩:∃ w1,w.alloc (.cells #[.int .i64 n.kind,.int .i64 n.num,.string n.text,.string n.ref.sh,.int .i64 n.ref.c,.int .i64 n.ref.r,.bool n.ref.ac,.bool n.ref.ar,.string n.to.sh,.int .i64 n.to.c,.int .i64 n.to.r,.bool n.to.ac,.bool n.to.ar,.slice A m c] 140)=w1:=⟨_,rfl⟩
 rw [hw1] at HN HB HTAB h1 h2 ⊢
 rw [hzz] at HN ⊢
 obtain ⟨-, -, -,x3,x4,x5,x6,x7,x8,x9,x10,x11,x12, -⟩:=HN.cells
 have hzl:=HN.lt
 have hzb:z≠b:=by omega
 have HN2:=Lib.hid HN
 have HI:=Lib.hid (fun wr (hr:Below w1.heap.size w1 wr)=>i1 wr (HTAB.out.below hr))
 have HJ:=Lib.hid (fun wr (hr:Below w1.heap.size w1 wr)=>i2 wr (HTAB.out.below hr))
 have HW:=Lib.hid (fun wr (hr:Below w1.heap.size w1 wr)=>write_any wr b nv wv txt (strOfNums l1++(⟨#[58]⟩:ByteArray)++strOfNums l2) (h1.below hr) (by rw [ByteArray.size_append,f3,strOfNums_size];omega))
 have HO:=Lib.hid h2
 clear hzz hw1 h1 h2 HN d1 d2 i1 i2 f3 hz hz2
 have H1:=Lib.hid ((Below.refl w1.heap.size w1).drew)
 go_region_held3 (fun w'=>w'.cell? ⟨z,3,none⟩=some (.string n.ref.sh)∧w'.cell? ⟨z,4,none⟩=some (.int .i64 n.ref.c)∧w'.cell? ⟨z,5,none⟩=some (.int .i64 n.ref.r)∧w'.cell? ⟨z,6,none⟩=some (.bool n.ref.ac)∧w'.cell? ⟨z,7,none⟩=some (.bool n.ref.ar)∧w'.cell? ⟨z,8,none⟩=some (.string n.to.sh)∧w'.cell? ⟨z,9,none⟩=some (.int .i64 n.to.c)∧w'.cell? ⟨z,10,none⟩=some (.int .i64 n.to.r)∧w'.cell? ⟨z,11,none⟩=some (.bool n.to.ac)∧w'.cell? ⟨z,12,none⟩=some (.bool n.to.ar)) (go_keep) (first
  | (go_at_call 186;((with_reducible refine (HI.out _ H1.out).mono ?_);rintro e w3 ⟨rfl,h3⟩;have H3:=Lib.hid (H1.out.trans (h3.mono H1.out.size));have p3:=(H3.out.cell (p:=⟨z,3,none⟩) hzl).trans x3;have p4:=(H3.out.cell (p:=⟨z,4,none⟩) hzl).trans x4;have p5:=(H3.out.cell (p:=⟨z,5,none⟩) hzl).trans x5;have p6:=(H3.out.cell (p:=⟨z,6,none⟩) hzl).trans x6;have p7:=(H3.out.cell (p:=⟨z,7,none⟩) hzl).trans x7;have p8:=(H3.out.cell (p:=⟨z,8,none⟩) hzl).trans x8;have p9:=(H3.out.cell (p:=⟨z,9,none⟩) hzl).trans x9;have p10:=(H3.out.cell (p:=⟨z,10,none⟩) hzl).trans x10;have p11:=(H3.out.cell (p:=⟨z,11,none⟩) hzl).trans x11;have p12:=(H3.out.cell (p:=⟨z,12,none⟩) hzl).trans x12;clear h3))
  | (go_at_call 186;((with_reducible refine (HJ.out _ H3.out).mono ?_);rintro e w4 ⟨rfl,h3⟩;have H4:=Lib.hid (H3.out.trans (h3.mono H3.out.size));have q3:=(H4.out.cell (p:=⟨z,3,none⟩) hzl).trans x3;have q4:=(H4.out.cell (p:=⟨z,4,none⟩) hzl).trans x4;have q5:=(H4.out.cell (p:=⟨z,5,none⟩) hzl).trans x5;have q6:=(H4.out.cell (p:=⟨z,6,none⟩) hzl).trans x6;have q7:=(H4.out.cell (p:=⟨z,7,none⟩) hzl).trans x7;have q8:=(H4.out.cell (p:=⟨z,8,none⟩) hzl).trans x8;have q9:=(H4.out.cell (p:=⟨z,9,none⟩) hzl).trans x9;have q10:=(H4.out.cell (p:=⟨z,10,none⟩) hzl).trans x10;have q11:=(H4.out.cell (p:=⟨z,11,none⟩) hzl).trans x11;have q12:=(H4.out.cell (p:=⟨z,12,none⟩) hzl).trans x12;clear h3))
  | (go_at_call 110;((with_reducible refine (HW.out _ H4.out).mono ?_);rintro e w5 ⟨⟨x,rfl⟩,h3,h4⟩;have HWS:=Lib.hid h3;have HF:=Lib.hid h4;have hzk:=HF.out.block z (Nat.lt_of_lt_of_le hzl H4.out.size) hzb (.inr fun cur fr e=>by
      have h5:=H4.out.block z hzl
      have h6:w1.heap[z]? = some (.cells (nodA n (.slice A m c)) 140):=HN2.out
      rw [h5,h6] at e;injection e with e;injection e with _ e2;exact absurd e2 (by decide));have r3:=(World.cell?_of_block (a:=⟨z,3,none⟩) hzk).trans q3;have r4:=(World.cell?_of_block (a:=⟨z,4,none⟩) hzk).trans q4;have r5:=(World.cell?_of_block (a:=⟨z,5,none⟩) hzk).trans q5;have r6:=(World.cell?_of_block (a:=⟨z,6,none⟩) hzk).trans q6;have r7:=(World.cell?_of_block (a:=⟨z,7,none⟩) hzk).trans q7;have r8:=(World.cell?_of_block (a:=⟨z,8,none⟩) hzk).trans q8;have r9:=(World.cell?_of_block (a:=⟨z,9,none⟩) hzk).trans q9;have r10:=(World.cell?_of_block (a:=⟨z,10,none⟩) hzk).trans q10;have r11:=(World.cell?_of_block (a:=⟨z,11,none⟩) hzk).trans q11;have r12:=(World.cell?_of_block (a:=⟨z,12,none⟩) hzk).trans q12;clear h3 h4)))
 all_goals go_wp2_with fail
 all_goals go_end0
 all_goals exact Wrote.of (HB.out.trans (H4.out.mono HB.out.size)) (HO.out.below H4.out (Nat.le_refl _)) HWS.out HF.out (by rw [HS.out]) (by rw [HS.out,HTX.out,sb_str _ (by intro x hx;rcases List.mem_append.1 hx with hx | hx;exact y1 x hx;rcases List.mem_cons.1 hx with rfl | hx;exact ⟨by decide,by decide⟩;exact y2 x hx)])
theorem ix34:∀ l:List UInt8,(Lib.index l [34] = -1∧∀ x∈l,x≠34)∨∃ i:Nat,Lib.index l [34]=i∧i<l.length∧(∀ x∈l.take i,x≠34)∧l.drop i=34 :: l.drop (i+1)
 | [] => .inl ⟨rfl,fun x hx=>by cases hx⟩
 | b :: l => by
   by_cases hb:b=34
   · subst hb;exact .inr ⟨0,rfl,by simp,fun x hx=>by simp at hx,rfl⟩
   · have hp:List.isPrefixOf [34] (b :: l)=false:=by
      show ((34:UInt8) == b&&List.isPrefixOf [] l)=false
      rw [beq_eq_false_iff_ne.2 (fun e=>hb e.symm)];rfl
     have e:Lib.index (b :: l) [34]=if Lib.index l [34] == -1 then -1 else Lib.index l [34]+1:=by
      rw [Lib.index,if_neg (by rw [hp];decide)]
     rcases ix34 l with ⟨h1,h2⟩ | ⟨i,h1,h2,h3,h4⟩
     · refine .inl ⟨by rw [e,h1];rfl,fun x hx => ?_⟩
       rcases List.mem_cons.1 hx with rfl | hx
       · exact hb
       · exact h2 x hx
     · refine .inr ⟨i+1, ?_,by simp;omega,fun x hx => ?_,by simpa using h4⟩
       · rw [e,h1,if_neg (by intro h;have:=beq_iff_eq.1 h;omega)];rfl
       · rw [List.take_succ_cons] at hx
         rcases List.mem_cons.1 hx with rfl | hx
         · exact hb
         · exact h3 x hx
def dblU:List UInt8→List UInt8
 | []=>[]
 | x :: l=>(if x=34 then [34,34] else [x])++dblU l
theorem dblU_none:∀ l:List UInt8,(∀ x∈l,x≠34)→dblU l=l
 | [],_=>rfl
 | x :: l,h=>by
   show (if x=34 then [34,34] else [x])++dblU l=x :: l
   rw [if_neg (h x (List.mem_cons_self ..)),dblU_none l (fun y hy=>h y (List.mem_cons_of_mem _ hy))];rfl
theorem dblU_app:∀ (p r:List UInt8),(∀ x∈p,x≠34)→dblU (p++34 :: r)=p++[34,34]++dblU r
 | [],r,_=>rfl
 | x :: p,r,h=>by
   show (if x=34 then [34,34] else [x])++dblU (p++34 :: r)=_
   rw [if_neg (h x (List.mem_cons_self ..)),dblU_app p r (fun y hy=>h y (List.mem_cons_of_mem _ hy))];rfl
theorem rep34:∀ (n:Nat) (l:List UInt8),l.length≤n→Lib.replaceK [34] [34,34] (Lib.count l [34]) l=dblU l∧Lib.count l [34]≤l.length
 | n, l,hn=>by
   rcases ix34 l with ⟨h1,h2⟩ | ⟨i,h1,h2,h3,h4⟩
   · rw [Lib.count_miss h1,dblU_none l h2];exact ⟨rfl,Nat.zero_le _⟩
   · have hc:=Lib.count_hit (s:=l) (sub:=[34]) (by decide) h1
     have hd:(l.drop (i+1)).length=l.length - (i+1):=List.length_drop
     match n with
     | 0=>omega
     | n+1 =>
       obtain ⟨e1,e2⟩:=rep34 n (l.drop (i+1)) (by omega)
       have hc2:Lib.count l [34]=Lib.count (l.drop (i+1)) [34]+1:=by rw [hc];show 1+Lib.count (l.drop (i+1)) [34]=_;omega
       refine ⟨?_,by omega⟩
       rw [hc2,Lib.replaceK_hit _ _ _ _ i h1]
       show l.take i++[34,34]++Lib.replaceK [34] [34,34] (Lib.count (l.drop (i+1)) [34]) (l.drop (i+1))=_
       rw [e1, ← dblU_app _ _ h3, ← h4,List.take_append_drop]
theorem all34 (l:List UInt8):Lib.replaceAll l [34] [34,34]=dblU l:=by
 unfold Lib.replaceAll Lib.replace Lib.replaceNum
 rw [if_neg (by decide),if_pos (.inl (by decide))]
 exact (rep34 l.length l (Nat.le_refl _)).1
theorem dblU_sb:∀ l:List UInt8,(dblU l).map (fun b=>(b.toNat:Int))=dblL (l.map fun b=>(b.toNat:Int))
 | []=>rfl
 | x :: l=>by
   show ((if x=34 then [34,34] else [x])++dblU l).map _=(if (x.toNat:Int)=34 then [34,34] else [(x.toNat:Int)])++dblL (l.map _)
   rw [List.map_append,dblU_sb l]
   by_cases h:x=34
   · subst h;rfl
   · rw [if_neg h,if_neg (fun e=>h (UInt8.toNat_inj.1 (by have:(34:UInt8).toNat=34:=rfl;omega)))];rfl
def MaxV (w:World):Prop:=∃ m,w.cell? ⟨(8:Nat),0,none⟩=some (.int .i64 m)
theorem MaxV.below {w w':World} (h:MaxV w) (hb:Below w.heap.size w w'):MaxV w':=by
 obtain ⟨m,hm⟩:=h
 exact ⟨m,(hb.cell (p:=⟨(8:Nat),0,none⟩) (World.block_lt_of_cell? w _ hm)).trans hm⟩
theorem MaxV.wrote {w w':World} {b:Nat} (h:MaxV w) (hf:Fb w w' b) (hg:8<b):MaxV w':=by
 obtain ⟨m,hm⟩:=h
 exact ⟨m,(World.cell?_of_block (a:=⟨(8:Nat),0,none⟩) (hf.block _ (World.block_lt_of_cell? w _ hm) (Nat.ne_of_lt hg) (.inl hg))).trans hm⟩
theorem replace_any (s:ByteArray) (hs:s.size≤1000000) (w:World) (hm:MaxV w):Calls Tryz.prog 185 #[.string s,.string ⟨#[34]⟩,.string ⟨#[34,34]⟩] w fun e w'=>e = .returned (.string (strOfNums (dblL (sb s))))∧Below w.heap.size w w':=by
 obtain ⟨m,hm⟩:=hm
 have hc:Lib.countB s ⟨#[34]⟩≤s.size:=(rep34 _ s.data.toList (Nat.le_refl _)).2
 have h:=Tryz.strings_ReplaceAll s ⟨#[34]⟩ ⟨#[34,34]⟩ m w (by omega) hm (by decide) (by have:(⟨#[34,34]⟩:ByteArray).size=2:=rfl;rw [this];omega)
 rw [show (⟨(Lib.replaceAll s.data.toList (⟨#[34]⟩:ByteArray).data.toList (⟨#[34,34]⟩:ByteArray).data.toList).toArray⟩:ByteArray)=strOfNums (dblL (sb s)) from by
  rw [show (⟨#[34]⟩:ByteArray).data.toList=[34] from rfl,show (⟨#[34,34]⟩:ByteArray).data.toList=[34,34] from rfl,all34, ← str_sb ⟨(dblU s.data.toList).toArray⟩]
  congr 1
  show (dblU s.data.toList).map (fun b=>(b.toNat:Int))=_
  rw [dblU_sb];rfl] at h
 exact h
theorem Fb.below {w w':World} {b:Nat} (h:Below w.heap.size w w'):Fb w w' b:=⟨h.os,h.tape,h.output,h.size,fun k hk _ _=>h.block k hk⟩
set_option maxRecDepth 100000 in
set_option maxHeartbeats 4000000 in
theorem quoted_node (w:World) (b:Nat) (nv:Value) (st:List Pt) (txt:List Int) (n:Nd) (A:Option Addr) (m c:Nat) (h:WQ w b nv st txt) (hk:n.kind=2) (hz:n.text.size≤1000000) (hmv:MaxV w) (hgb:8<b) (hl:txt.length≤1000000000) :
 Calls Tryz.prog 146 #[.pointer (some ⟨b,0,none⟩),.agg #[.int .i64 n.kind,.int .i64 n.num,.string n.text,.string n.ref.sh,.int .i64 n.ref.c,.int .i64 n.ref.r,.bool n.ref.ac,.bool n.ref.ar,.string n.to.sh,.int .i64 n.to.c,.int .i64 n.to.r,.bool n.to.ac,.bool n.to.ar,.slice A m c]] w (Wrote w b nv st txt n):=by
 have hB:Below w.heap.size w (w.alloc (.cells #[.int .i64 n.kind,.int .i64 n.num,.string n.text,.string n.ref.sh,.int .i64 n.ref.c,.int .i64 n.ref.r,.bool n.ref.ac,.bool n.ref.ar,.string n.to.sh,.int .i64 n.to.c,.int .i64 n.to.r,.bool n.to.ac,.bool n.to.ar,.slice A m c] 140)):=(Below.refl _ _).alloc (Nat.le_refl _) _
 have HN:NdAt (w.alloc (.cells #[.int .i64 n.kind,.int .i64 n.num,.string n.text,.string n.ref.sh,.int .i64 n.ref.c,.int .i64 n.ref.r,.bool n.ref.ac,.bool n.ref.ar,.string n.to.sh,.int .i64 n.to.c,.int .i64 n.to.r,.bool n.to.ac,.bool n.to.ar,.slice A m c] 140)) w.heap.size n (.slice A m c):=NdAt.new w n _
 have hs:stepN n=(34 :: (dblL (sb n.text)++[34]),[]):=by unfold stepN;rw [if_neg (by omega),if_pos hk]
 have hd:=dblL_len (sb n.text)
 rw [length_sb] at hd
 have hbw:b<w.heap.size:=by obtain ⟨wv,h1, -⟩:=h;exact h1.lt
 have hby:=bytes_dbl (sb n.text) (sb_bd n.text)
 have HS:=Lib.hid hs
 have HB:=Lib.hid hB
 obtain ⟨wv,h1,h2⟩:=h.below hB
 have HMV:=Lib.hid (hmv.below hB)
 clear h hs hk hmv hB
 go_enter Tryz.func146,Tryz.ntmps146
 go_upto_region 1 with (fail)
 obtain ⟨z,hzz⟩:∃ z,w.heap.size=z:=⟨_,rfl⟩
 obtain ⟨w1,hw1⟩:∃ w1,w.alloc (.cells #[.int .i64 n.kind,.int .i64 n.num,.string n.text,.string n.ref.sh,.int .i64 n.ref.c,.int .i64 n.ref.r,.bool n.ref.ac,.bool n.ref.ar,.string n.to.sh,.int .i64 n.to.c,.int .i64 n.to.r,.bool n.to.ac,.bool n.to.ar,.slice A m c] 140)=w1:=⟨_,rfl⟩
 rw [hw1] at HN HB HMV h1 h2 ⊢
 rw [hzz] at HN ⊢
 have hzl:=HN.lt
 have hzb:z≠b:=by omega
 have HN2:=Lib.hid HN
 have HW:=Lib.hid (write_any w1 b nv wv txt ⟨#[34]⟩ h1 (by show txt.length+1≤_;omega))
 have HO:=Lib.hid h2
 clear hzz hw1 h1 h2 HN
 go_upto_region 2 with (go_at_call 110;((with_reducible refine HW.out.mono ?_);rintro e w2 ⟨⟨x,rfl⟩,h3,h4⟩;have HWS:=Lib.hid h3;have HF:=Lib.hid h4;clear h3 h4))
 have HN3:=Lib.hid (show NdAt w2 z n (.slice A m c) by
  unfold NdAt
  rw [HF.out.block z hzl hzb (.inr fun cur fr e=>by
   have h6:w1.heap[z]? = some (.cells (nodA n (.slice A m c)) 140):=HN2.out
   rw [h6] at e;injection e with e;injection e with _ e2;exact absurd e2 (by decide))]
  exact HN2.out)
 have HMV2:=Lib.hid (HMV.out.wrote HF.out hgb)
 have x2:=HN3.out.cells.2.2.1
 have hz2:=HN3.out.lt
 have HI:=Lib.hid (fun wr (hr:Below w2.heap.size w2 wr)=>replace_any n.text hz wr (HMV2.out.below hr))
 have HW2:=Lib.hid (fun wr (hr:Below w2.heap.size w2 wr)=>write_any wr b nv wv (txt++sb ⟨#[34]⟩) (strOfNums (dblL (sb n.text))) (HWS.out.below hr) (by rw [strOfNums_size,List.length_append];show txt.length+1+_≤_;omega))
 have H1:=Lib.hid ((Below.refl w2.heap.size w2).drew)
 go_region_held3 (fun w'=>w'.cell? ⟨z,2,none⟩=some (.string n.text)) (go_keep) (first
  | (go_at_call 185;((with_reducible refine (HI.out _ H1.out).mono ?_);rintro e w3 ⟨rfl,h3⟩;have H3:=Lib.hid (H1.out.trans (h3.mono H1.out.size));have y2:=(H3.out.cell (p:=⟨z,2,none⟩) hz2).trans x2;clear h3))
  | (go_at_call 110;((with_reducible refine (HW2.out _ H3.out).mono ?_);rintro e w4 ⟨⟨x,rfl⟩,h3,h4⟩;have HWS4:=Lib.hid h3;have HF4:=Lib.hid h4;have hzk:=HF4.out.block z (Nat.lt_of_lt_of_le hz2 H3.out.size) hzb (.inr fun cur fr e=>by
      have h5:=H3.out.block z hz2
      have h6:w2.heap[z]? = some (.cells (nodA n (.slice A m c)) 140):=HN3.out
      rw [h5,h6] at e;injection e with e;injection e with _ e2;exact absurd e2 (by decide));have z2:=(World.cell?_of_block (a:=⟨z,2,none⟩) hzk).trans y2;clear h3 h4 hzk)))
 have HW3:=Lib.hid (write_any w4 b nv wv _ ⟨#[34]⟩ HWS4.out (by rw [List.length_append,List.length_append,sb_str _ hby];show txt.length+1+_+1≤_;omega))
 go_wp2_with (go_at_call 110;((with_reducible refine HW3.out.mono ?_);rintro e w5 ⟨⟨x,rfl⟩,h3,h4⟩;have HWS5:=Lib.hid h3;have HF5:=Lib.hid h4;clear h3 h4))
 go_end0
 have HFF:=Lib.hid (((HF.out).trans (Fb.below H3.out)).trans (HF4.out.trans HF5.out))
 exact Wrote.of HB.out HO.out HWS5.out HFF.out (by rw [HS.out]) (by rw [HS.out,sb_str _ hby,show sb ⟨#[34]⟩=[34] by decide];simp [List.append_assoc])
theorem own_litP (w:World) (ps:List Pt) (cs:Array Value) (hcs:cs.toList=encPt.all ps) (hl:ps.length≤1000000):Own encPt 123 (w.alloc (.cells cs 123)) 0 (.slice (some ⟨w.heap.size,0,none⟩) ps.length ps.length) ps:=by
 have hs:cs.size=ps.length*3:=by rw [← Array.length_toList,hcs,Enc.length_all]
 refine ⟨by rw [Enc.length_all],.inr ⟨w.heap.size,ps.length,cs,rfl,Nat.zero_le _,(Go.MapKept.heap_alloc w _).1,Nat.le_refl _,by unfold maxLen;omega,hs, ?_⟩⟩
 rw [hcs,List.take_of_length_le (by rw [Enc.length_all];exact Nat.le_refl _)]
theorem WS.one {w:World} {b:Nat} {nv wv wv2:Value} {t1 t2:List Int} (h:WS w b nv wv t1) (h2:WS w b nv wv2 t2):wv2=wv:=by
 obtain ⟨ad,bv,h3,_⟩:=h
 obtain ⟨ad2,bv2,h4,_⟩:=h2
 have e:w.heap[b]? = some (.cells #[nv,wv,ad,bv] 120):=h3
 have e2:w.heap[b]? = some (.cells #[nv,wv2,ad2,bv2] 120):=h4
 rw [e] at e2;injection e2 with e2;injection e2 with e2;simp at e2;exact e2.1.symm
theorem push_lit (w:World) (b:Nat) (nv:Value) (st ps:List Pt) (txt:List Int) (cs:Array Value) (k:Nat) (hk:ps.length=k) (hcs:cs.toList=encPt.all ps) (h:WQ w b nv st txt) (hl1:ps.length≤1000000) (hl2:st.length≤2000000000) :
 Calls Tryz.prog 77 #[.pointer (some ⟨b,0,none⟩),.slice (some ⟨w.heap.size,0,none⟩) k k] (w.alloc (.cells cs 123)) fun e w'=>e = .returned (.tuple #[])∧WQ w' b nv (st++ps.reverse) txt∧Fq w w' b:=by
 subst hk
 have hb:Below w.heap.size w (w.alloc (.cells cs 123)):=(Below.refl _ _).alloc (Nat.le_refl _) _
 obtain ⟨wv,hws,ho⟩:=h
 refine (push_any (w.alloc (.cells cs 123)) b nv st ps txt w.heap.size ps.length ⟨wv,hws.below hb,ho.below hb (Nat.le_refl _)⟩ (own_litP w ps cs hcs hl1) ?_ hl1 hl2).mono ?_
 · intro wv2 h2 e
   rw [(hws.below hb).one h2] at e
   have:=(Own.blockLt ho _ e).2.1
   omega
 · rintro e w' ⟨h1,h2,h3⟩
   exact ⟨h1,h2,(Fq.ofBelow hb).trans h3⟩
theorem op_lit (i m:Int) (w:World):Calls Tryz.prog 78 #[.int .i64 i,.int .i64 m] w fun e w'=>e = .returned (.agg #[.string ⟨#[]⟩,.int .i64 i,.int .i64 m])∧Below w.heap.size w w':=operand_any i m w
theorem plain_lit (t:ByteArray) (w:World):Calls Tryz.prog 112 #[.string t] w fun e w'=>e = .returned (.agg #[.string t,.int .i64 0,.int .i64 0])∧Below w.heap.size w w':=plain_any t w
theorem SI.fq {w w':World} {B b:Nat} {v:Value} {xs:List Int} (h:SI w B v xs) (hf:Fq w w' b) (hB:B≤b) (hw:b<w.heap.size):SI w' B v xs:=by
 obtain ⟨A,cap,h1,h2,h3,h4⟩:=h
 refine ⟨A,cap,h1,h2,h3,h4.imp id ?_⟩
 rintro ⟨pb,po,e1,e2,e3⟩
 exact ⟨pb,po,e1,e2,fun j x hj=>(World.cell?_of_block (a:=⟨pb,po+j,none⟩) (hf.block pb (by omega) (by omega) (.inl (by omega)))).trans (e3 j x hj)⟩
set_option maxRecDepth 100000 in
set_option maxHeartbeats 4000000 in
theorem negative_node (w:World) (b:Nat) (nv:Value) (st:List Pt) (txt:List Int) (n:Nd) (A:Option Addr) (m c:Nat) (h:WQ w b nv st txt) (hk:n.kind=8) (k0:Int) (hk0:n.kids[0]? = some k0) (hsi:SI w b (.slice A m c) n.kids) (hl:txt.length≤1000000000) (hls:st.length≤2000000000) :
 Calls Tryz.prog 152 #[.pointer (some ⟨b,0,none⟩),.agg #[.int .i64 n.kind,.int .i64 n.num,.string n.text,.string n.ref.sh,.int .i64 n.ref.c,.int .i64 n.ref.r,.bool n.ref.ac,.bool n.ref.ar,.string n.to.sh,.int .i64 n.to.c,.int .i64 n.to.r,.bool n.to.ac,.bool n.to.ar,.slice A m c]] w (Wrote w b nv st txt n):=by
 have hB:Below w.heap.size w (w.alloc (.cells #[.int .i64 n.kind,.int .i64 n.num,.string n.text,.string n.ref.sh,.int .i64 n.ref.c,.int .i64 n.ref.r,.bool n.ref.ac,.bool n.ref.ar,.string n.to.sh,.int .i64 n.to.c,.int .i64 n.to.r,.bool n.to.ac,.bool n.to.ar,.slice A m c] 140)):=(Below.refl _ _).alloc (Nat.le_refl _) _
 have HN:NdAt (w.alloc (.cells #[.int .i64 n.kind,.int .i64 n.num,.string n.text,.string n.ref.sh,.int .i64 n.ref.c,.int .i64 n.ref.r,.bool n.ref.ac,.bool n.ref.ar,.string n.to.sh,.int .i64 n.to.c,.int .i64 n.to.r,.bool n.to.ac,.bool n.to.ar,.slice A m c] 140)) w.heap.size n (.slice A m c):=NdAt.new w n _
 have hs:stepN n=([45],[Pt.op k0 5]):=by
  unfold stepN;rw [if_neg (by omega),if_neg (by omega),if_neg (by omega),if_neg (by omega),if_neg (by omega),if_neg (by omega),if_neg (by omega),if_pos hk,List.getD_eq_getElem?_getD,hk0];rfl
 have hbw:b<w.heap.size:=by obtain ⟨wv,h1, -⟩:=h;exact h1.lt
 have hsi1:=hsi.below hB (Nat.le_of_lt hbw)
 obtain ⟨A',cap',hsl,hcm, -,hcell⟩:=hsi1
 injection hsl with e1 e2 e3
 have hpos:0<n.kids.length:=(List.getElem?_eq_some_iff.1 hk0).1
 obtain ⟨pb,po,hA,hpb,hcl⟩:=hcell.resolve_left (fun e=>by rw [e] at hpos;exact absurd hpos (by decide))
 have hc0:=hcl 0 k0 hk0
 rw [Nat.add_zero] at hc0
 have hA2:=e1.trans hA
 subst hA2;subst e3
 clear e1 hA
 have hm0:(0:Int)<(m:Int):=by omega
 have hm1:0<m:=by omega
 have HS:=Lib.hid hs
 have HB:=Lib.hid hB
 obtain ⟨wv,h1,h2⟩:=h.below hB
 clear h hs hk hB hsi e2 hcl hpos hcell hk0
 go_enter Tryz.func152,Tryz.ntmps152
 go_upto_region 1 with (fail)
 obtain ⟨z,hzz⟩:∃ z,w.heap.size=z:=⟨_,rfl⟩
 obtain ⟨w1,hw1⟩:∃ w1,w.alloc (.cells #[.int .i64 n.kind,.int .i64 n.num,.string n.text,.string n.ref.sh,.int .i64 n.ref.c,.int .i64 n.ref.r,.bool n.ref.ac,.bool n.ref.ar,.string n.to.sh,.int .i64 n.to.c,.int .i64 n.to.r,.bool n.to.ac,.bool n.to.ar,.slice (some ⟨pb,po,none⟩) m c] 140)=w1:=⟨_,rfl⟩
 rw [hw1] at HN HB h1 h2 hc0 ⊢
 rw [hzz] at HN ⊢
 have hzl:=HN.lt
 have hzb:z≠b:=by omega
 have HN2:=Lib.hid HN
 have HW:=Lib.hid (write_any w1 b nv wv txt ⟨#[45]⟩ h1 (by show txt.length+1≤_;omega))
 have HO:=Lib.hid h2
 clear hzz hw1 h1 h2 HN
 go_upto_region 2 with (go_at_call 110;((with_reducible refine HW.out.mono ?_);rintro e w2 ⟨⟨x,rfl⟩,h3,h4⟩;have HWS:=Lib.hid h3;have HF:=Lib.hid h4;clear h3 h4))
 have hN3:NdAt w2 z n (.slice (some ⟨pb,po,none⟩) m c):=by
  unfold NdAt
  rw [HF.out.block z hzl hzb (.inr fun cur fr e=>by
   have h6:w1.heap[z]? = some (.cells (nodA n (.slice (some ⟨pb,po,none⟩) m c)) 140):=HN2.out
   rw [h6] at e;injection e with e;injection e with _ e2;exact absurd e2 (by decide))]
  exact HN2.out
 obtain ⟨-, -, -, -, -, -, -, -, -, -, -, -, -,x13⟩:=hN3.cells
 have hbw1:b<w1.heap.size:=Nat.lt_of_lt_of_le hbw HB.out.size
 have hd0:w2.cell? ⟨pb,po,none⟩=some (.int .i64 k0):=(World.cell?_of_block (a:=⟨pb,po,none⟩) (HF.out.block pb (by omega) (by omega) (.inl hpb))).trans hc0
 have HWQ2:=Lib.hid (show WQ w2 b nv st (txt++[45]) from by
  have h:=WQ.wrote HO.out HWS.out HF.out
  rwa [show sb ⟨#[45]⟩=[45] by decide] at h)
 have HPU:=Lib.hid (fun (w3:World) (h3:Below w2.heap.size w2 w3)=>push_lit w3 b nv st [Pt.op k0 5] (txt++[45]) #[.string ⟨#[]⟩,.int .i64 k0,.int .i64 5] 1 rfl rfl (HWQ2.out.below h3) (by show 1≤1000000;decide) hls)
 clear hN3 hc0
 go_wp2_with (first
  | (go_at_call 78;((with_reducible refine (op_lit _ _ _).mono ?_);rintro e w3 ⟨rfl,h3⟩;have HB3:=Lib.hid h3;clear h3))
  | (go_at_call 77;((with_reducible refine (HPU.out _ HB3.out).mono ?_);rintro e w5 ⟨rfl,h3,h4⟩;have HQ5:=Lib.hid h3;have HF5:=Lib.hid h4;clear h3 h4)))
 go_end0
 refine ⟨rfl, ?_,(Fq.ofBelow HB.out).trans ((Fq.ofB HF.out).trans ((Fq.ofBelow HB3.out).trans HF5.out))⟩
 rw [HS.out];exact HQ5.out
end Go.Proofs.YtdphoaabaajonaaGreatDoor
