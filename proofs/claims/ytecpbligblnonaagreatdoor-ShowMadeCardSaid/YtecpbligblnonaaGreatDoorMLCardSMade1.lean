/-
 Texts of layers, put together.
-/
import Derived.Test.YtecpbligblnonaaGreatDoorML10
import Derived.Test.YtecpbligblnonaaGreatDoorRows
import Derived.WalkKit
import Derived.WalkSpells
import Derived.WalkLawsBesides
import Derived.WalkSmall
import Derived.Handy
import Derived.Deep.QuietTactic
import Derived.BigQuiet
import Derived.RegionTactic
import Derived.BigRegion
import Derived.StillTailTactics
import Derived.Lib.Hide
import Derived.Laws.Rows
import Derived.Laws.CopyOwn
import Derived.Laws.CopyRow
import Derived.Deep.MidRow
import Derived.Deep.WholeRow
import Derived.Deep.Cut
import Derived.Deep.RegionLaw
import Derived.MapKept
import Derived.Laws.ResultCell
import Derived.Deep.DeepCutAuto
import Derived.Deep.CutBlock
namespace Go.Proofs.YtecpbligblnonaaGreatDoor
open Go.RowKit
def U (l:List Int):List Value:=l.map (Value.int .u32)
theorem ret_ib {a b:Int} {p q:Bool} (h:a=b) (h2:p=q):Ending.returned (.tuple #[.int .i64 a,.bool p]) = .returned (.tuple #[.int .i64 b,.bool q]):=by rw [h,h2]
theorem cat_eq {a b:ByteArray} {x y:List Int} (h:a=strOfNums x) (k:b=strOfNums y):a++b=strOfNums (x++y):=by rw [h,k,str_append]
theorem str_e:(⟨#[]⟩:ByteArray)=strOfNums []:=rfl
theorem str_d:(⟨#[36]⟩:ByteArray)=strOfNums [36]:=rfl
theorem str_b:(⟨#[33]⟩:ByteArray)=strOfNums [33]:=rfl
theorem leaf_num {n:Nd} (h:leafB n=true) (hk:n.kind=1):0≤n.num:=by
 unfold leafB at h
 split at h
 · cases h
 · simpa [hk] using h
set_option maxHeartbeats 400000 in
theorem refCapital_any (c:Int) (_h0:0≤c) (_h1:c≤255) (w:World) :
 Calls Tryz.prog 150 #[.int .u8 c] w fun e w'=>e = .returned (.bool (isCap c))∧w=w':=by
 go_enter Tryz.func150,Tryz.ntmps150
 go_wp2
 all_goals go_ret
 all_goals exact ⟨ret_bool (by unfold isCap;first | rfl | (symm;rw [decide_eq_true_iff];omega) | (symm;rw [decide_eq_false_iff_not];omega) | (rw [decide_eq_decide];omega)),rfl⟩
set_option maxHeartbeats 400000 in
theorem refDigit_any (c:Int) (_h0:0≤c) (_h1:c≤255) (w:World) :
 Calls Tryz.prog 152 #[.int .u8 c] w fun e w'=>e = .returned (.bool (isNum c))∧w=w':=by
 go_enter Tryz.func152,Tryz.ntmps152
 go_wp2
 all_goals go_ret
 all_goals exact ⟨ret_bool (by unfold isNum;first | rfl | (symm;rw [decide_eq_true_iff];omega) | (symm;rw [decide_eq_false_iff_not];omega) | (rw [decide_eq_decide];omega)),rfl⟩
set_option maxHeartbeats 400000 in
theorem refLetter_any (c:Int) (_h0:0≤c) (_h1:c≤255) (w:World) :
 Calls Tryz.prog 166 #[.int .u8 c] w fun e w'=>e = .returned (.bool (isLet c))∧w=w':=by
 go_enter Tryz.func166,Tryz.ntmps166
 go_wp2
 all_goals go_ret
 all_goals exact ⟨ret_bool (by unfold isLet;first | rfl | (rw [Bool.eq_iff_iff];simp only [Bool.or_eq_true,decide_eq_true_iff];omega) | (symm;rw [decide_eq_true_iff];omega) | (symm;rw [decide_eq_false_iff_not];omega) | (rw [decide_eq_decide];omega)),rfl⟩
set_option maxRecDepth 100000 in
set_option maxHeartbeats 400000 in
theorem refName_any (s:ByteArray) (w:World) (_hs:s.size≤1000000) :
 Calls Tryz.prog 132 #[.string s] w fun e w'=>e = .returned (.bool (nameL (sb s)))∧w=w':=by
 go_enter Tryz.func132,Tryz.ntmps132
 go_wp2
 go_loopw [3] (fun i wr=>∃ k:Nat,k≤s.size∧i = .int .i64 k∧Hid (∀ j,j<k→inName j ((sb s).getD j 0)=true)∧w=wr)
  (fun i _=>s.size - (intOf i).toNat)
 case atStart=>exact ⟨0,by omega,rfl,Lib.hid (fun j hj=>absurd hj (by omega)),rfl⟩
 case round =>
  obtain ⟨k,hk,rfl,HG,rfl⟩:=hrel
  by_cases hlt:k<s.size
  · have hki:(k:Int)<(s.size:Int):=by omega
    obtain ⟨a,ha⟩:∃ a:Int,(s[k].toNat:Int)=a:=⟨_,rfl⟩
    have ha1:0≤a∧a≤255:=by have:=s[k].toNat_lt;omega
    have hga:(sb s).getD k 0=a:=by rw [sb_getD s k hlt,ha]
    have HGA:=Lib.hid hga;clear hga
    by_cases hl:isLet a=true
    · go_wp2_with (first
       | (go_at_call 166;((with_reducible refine (refLetter_any _ ?_ ?_ _).mono ?_);(first | omega | skip);(first | omega | skip);rintro e w' ⟨rfl,rfl⟩)))
      go_roundw
      case rel =>
       refine ⟨k+1,by omega,by go_num,Lib.hid ?_,by trivial⟩
       intro j hj
       by_cases h1:j<k
       · exact HG.out j h1
       · rw [show j=k from by omega,HGA.out];unfold inName;rw [hl,Bool.true_or]
      case measure=>simp [intOf];omega
    · have hl':isLet a=false:=by simpa using hl
      clear hl
      by_cases hn:isNum a=true
      · by_cases hk0:0<k
        · have hk1:(0:Int)<(k:Int):=by omega
          go_wp2_with (first
           | (go_at_call 166;((with_reducible refine (refLetter_any _ ?_ ?_ _).mono ?_);(first | omega | skip);(first | omega | skip);rintro e w' ⟨rfl,rfl⟩))
           | (go_at_call 152;((with_reducible refine (refDigit_any _ ?_ ?_ _).mono ?_);(first | omega | skip);(first | omega | skip);rintro e w' ⟨rfl,rfl⟩)))
          go_roundw
          case rel =>
           refine ⟨k+1,by omega,by go_num,Lib.hid ?_,by trivial⟩
           intro j hj
           by_cases h1:j<k
           · exact HG.out j h1
           · rw [show j=k from by omega,HGA.out];unfold inName;rw [hl',hn,decide_eq_true hk0];rfl
          case measure=>simp [intOf];omega
        · have hk1:¬ (0:Int)<(k:Int):=by omega
          have hno:=nameL_bad s k hlt (by rw [HGA.out];unfold inName;rw [hl',decide_eq_false hk0];rfl)
          have HNO:=Lib.hid hno;clear hno
          go_wp2_with (first
           | (go_at_call 166;((with_reducible refine (refLetter_any _ ?_ ?_ _).mono ?_);(first | omega | skip);(first | omega | skip);rintro e w' ⟨rfl,rfl⟩)))
          go_ret
          exact ⟨ret_bool HNO.out.symm,rfl⟩
      · have hn':isNum a=false:=by simpa using hn
        clear hn
        have hno:=nameL_bad s k hlt (by rw [HGA.out];unfold inName;rw [hl',hn',Bool.and_false];rfl)
        have HNO:=Lib.hid hno;clear hno
        go_wp2_with (first
         | (go_at_call 166;((with_reducible refine (refLetter_any _ ?_ ?_ _).mono ?_);(first | omega | skip);(first | omega | skip);rintro e w' ⟨rfl,rfl⟩))
         | (go_at_call 152;((with_reducible refine (refDigit_any _ ?_ ?_ _).mono ?_);(first | omega | skip);(first | omega | skip);rintro e w' ⟨rfl,rfl⟩)))
        all_goals go_ret
        all_goals exact ⟨ret_bool HNO.out.symm,rfl⟩
  · have hki:¬ (k:Int)<(s.size:Int):=by omega
    have hno:=nameL_all s (fun j hj=>HG.out j (by omega))
    have HNO:=Lib.hid hno;clear hno
    go_wp2
    all_goals go_ret
    all_goals exact ⟨ret_bool (by rw [HNO.out];first | (symm;rw [decide_eq_true_iff];omega) | (symm;rw [decide_eq_false_iff_not];omega) | (rw [decide_eq_decide];omega)),rfl⟩
set_option maxRecDepth 100000 in
set_option maxHeartbeats 400000 in
theorem refReadCol_any (s:ByteArray) (w:World) (_hs:s.size≤1000000) :
 Calls Tryz.prog 151 #[.string s] w fun e w'=>e = .returned (.tuple #[.int .i64 (readColL (sb s)),.bool (isCol (sb s))])∧∃ n,w'=w.drewN n:=by
 by_cases hl:1≤s.size∧s.size≤2
 · by_cases h1:s.size=1
   · have hp0:0<s.size:=by omega
     obtain ⟨a,ha⟩:∃ a:Int,(s[0].toNat:Int)=a:=⟨_,rfl⟩
     have ha1:0≤a∧a≤255:=by have:=s[0].toNat_lt;omega
     have hg0:(sb s).getD 0 0=a:=by rw [sb_getD s 0 hp0,ha]
     have hic:isCol (sb s)=isCap a:=by unfold isCol;rw [length_sb,h1,hg0,Bool.and_self];rfl
     have hrc:readColL (sb s)=if isCap a=true then a - 65 else 0:=by unfold readColL;rw [hic,length_sb,h1,hg0];rfl
     have HIC:=Lib.hid hic;clear hic
     have HRC:=Lib.hid hrc;clear hrc
     have hz1:(s.size:Int)=1:=by omega
     clear hl hg0
     by_cases hc:isCap a=true
     · have hr:65≤a∧a≤90:=by unfold isCap at hc;rw [decide_eq_true_iff] at hc;exact hc
       go_enter Tryz.func151,Tryz.ntmps151
       go_wp2_with (first
        | (go_at_call 150;((with_reducible refine (refCapital_any _ ?_ ?_ _).mono ?_);(first | omega | skip);(first | omega | skip);rintro e w' ⟨rfl,rfl⟩)))
       all_goals go_ret2
       all_goals exact ⟨by rw [HIC.out,HRC.out,hc];rfl,0,rfl⟩
     · have hc':isCap a=false:=by simpa using hc
       clear hc
       go_enter Tryz.func151,Tryz.ntmps151
       go_wp2_with (first
        | (go_at_call 150;((with_reducible refine (refCapital_any _ ?_ ?_ _).mono ?_);(first | omega | skip);(first | omega | skip);rintro e w' ⟨rfl,rfl⟩)))
       all_goals go_ret2
       all_goals exact ⟨by rw [HIC.out,HRC.out,hc'];rfl,0,rfl⟩
   · have h2:s.size=2:=by omega
     have hp0:0<s.size:=by omega
     have hp1:1<s.size:=by omega
     obtain ⟨a,ha⟩:∃ a:Int,(s[0].toNat:Int)=a:=⟨_,rfl⟩
     obtain ⟨b,hb⟩:∃ b:Int,(s[1].toNat:Int)=b:=⟨_,rfl⟩
     have ha1:0≤a∧a≤255:=by have:=s[0].toNat_lt;omega
     have hb1:0≤b∧b≤255:=by have:=s[1].toNat_lt;omega
     have hg0:(sb s).getD 0 0=a:=by rw [sb_getD s 0 hp0,ha]
     have hg1:(sb s).getD 1 0=b:=by rw [sb_getD s 1 hp1,hb]
     have hic:isCol (sb s)=(isCap a&&isCap b):=by unfold isCol;rw [length_sb,h2,hg0,hg1];rfl
     have hrc:readColL (sb s)=if (isCap a&&isCap b)=true then 26*(a - 64)+(b - 65) else 0:=by unfold readColL;rw [hic,length_sb,h2,hg0,hg1];rfl
     have HIC:=Lib.hid hic;clear hic
     have HRC:=Lib.hid hrc;clear hrc
     have hz1:(s.size:Int)=2:=by omega
     clear hl hg0 hg1 h1
     by_cases hc:isCap a=true
     · have hr:65≤a∧a≤90:=by unfold isCap at hc;rw [decide_eq_true_iff] at hc;exact hc
       by_cases hd:isCap b=true
       · have hr2:65≤b∧b≤90:=by unfold isCap at hd;rw [decide_eq_true_iff] at hd;exact hd
         go_enter Tryz.func151,Tryz.ntmps151
         go_wp2_with (first
          | (go_at_call 150;((with_reducible refine (refCapital_any _ ?_ ?_ _).mono ?_);(first | omega | skip);(first | omega | skip);rintro e w' ⟨rfl,rfl⟩)))
         go_quiet (fail)
         go_wp2_with fail
         all_goals go_ret2
         all_goals exact ⟨ret_ib (by rw [HRC.out,hc,hd];simp only [Bool.and_self,if_true];omega) (by rw [HIC.out,hc,hd];rfl),_,rfl⟩
       · have hd':isCap b=false:=by simpa using hd
         clear hd
         go_enter Tryz.func151,Tryz.ntmps151
         go_wp2_with (first
          | (go_at_call 150;((with_reducible refine (refCapital_any _ ?_ ?_ _).mono ?_);(first | omega | skip);(first | omega | skip);rintro e w' ⟨rfl,rfl⟩)))
         all_goals go_ret2
         all_goals exact ⟨by rw [HIC.out,HRC.out,hc,hd'];rfl,0,rfl⟩
     · have hc':isCap a=false:=by simpa using hc
       clear hc
       go_enter Tryz.func151,Tryz.ntmps151
       go_wp2_with (first
        | (go_at_call 150;((with_reducible refine (refCapital_any _ ?_ ?_ _).mono ?_);(first | omega | skip);(first | omega | skip);rintro e w' ⟨rfl,rfl⟩)))
       all_goals go_ret2
       all_goals exact ⟨by rw [HIC.out,HRC.out,hc'];rfl,0,rfl⟩
 · have hno:isCol (sb s)=false:=by unfold isCol;rw [length_sb,decide_eq_false hl,Bool.false_and]
   have hn2:readColL (sb s)=0:=by unfold readColL;rw [hno];rfl
   have HNO:=Lib.hid hno;clear hno
   have HN2:=Lib.hid hn2;clear hn2
   go_enter Tryz.func151,Tryz.ntmps151
   go_wp2
   all_goals first | omega | skip
   all_goals go_ret2
   all_goals exact ⟨by rw [HNO.out,HN2.out];rfl,0,rfl⟩
theorem run_two8 (w:World) (t:TypeId) (x y:Int):(convert 22 9 (.slice (some ⟨w.heap.size,0,none⟩) 2 2)).run Tryz.prog (w.alloc (.cells #[.int .u8 x,.int .u8 y] t)) = .ok (.string (strOfNums [x,y])) (w.alloc (.cells #[.int .u8 x,.int .u8 y] t)):=by
 refine run_convert_bytes_arg _ _ 5 Tryz.underlying22 Tryz.underlying5 _ 0 _ 2 [x,y] rfl (fun i hi => ?_) _ Tryz.underlying9
 rw [Nat.zero_add]
 have h:i=0∨i=1:=by simp at hi;omega
 rcases h with rfl | rfl
 · exact cells_new (w:=w) _ _ [.int .u8 x,.int .u8 y] rfl 0 _ rfl
 · exact cells_new (w:=w) _ _ [.int .u8 x,.int .u8 y] rfl 1 _ rfl
set_option maxRecDepth 100000 in
set_option maxHeartbeats 400000 in
theorem refCol_any (n:Int) (_h0 : -9223372036854775808≤n) (_h1:n≤9223372036854775807) (w:World) :
 Calls Tryz.prog 43 #[.int .i64 n] w fun e w'=>e = .returned (.string (strOfNums (colL n)))∧Below w.heap.size w w':=by
 by_cases hr:n<0∨701<n
 · have hc:colL n=[]:=by unfold colL;rw [if_pos hr]
   have HC:=Lib.hid hc;clear hc
   go_enter Tryz.func43,Tryz.ntmps43
   go_wp2
   all_goals first | omega | skip
   all_goals go_ret
   all_goals exact ⟨by rw [HC.out];rfl,Below.refl _ _⟩
 · have h0:¬ n<0:=by omega
   have h2:¬ 701<n:=by omega
   have h0':0≤n:=by omega
   by_cases h26:n<26
   · have hc:colL n=[65+n]:=by unfold colL;rw [if_neg hr,if_pos h26]
     have HC:=Lib.hid hc;clear hc hr
     have hcv:=fun (w:World)=>run_one8 w 5 (65+n)
     go_enter Tryz.func43,Tryz.ntmps43
     go_wp2
     all_goals go_ret
     all_goals exact ⟨by rw [HC.out];rfl,(Below.refl _ _).alloc (Nat.le_refl _) _⟩
   · have hc:colL n=[65+n / 26 - 1,65+n % 26]:=by unfold colL;rw [if_neg hr,if_neg h26];congr 1;omega
     have HC:=Lib.hid hc;clear hc hr
     have hcv:=fun (w:World)=>run_two8 w 5 (65+n / 26 - 1) (65+n % 26)
     go_enter Tryz.func43,Tryz.ntmps43
     go_wp2
     all_goals go_ret
     all_goals exact ⟨by rw [HC.out];rfl,(Below.refl _ _).alloc (Nat.le_refl _) _⟩
set_option maxRecDepth 100000 in
set_option maxHeartbeats 400000 in
theorem refMay_any (s:ByteArray) (c r:Int) (ac ar:Bool) (w:World) (_hs:s.size≤1000000) :
 Calls Tryz.prog 113 #[.agg #[.string s,.int .i64 c,.int .i64 r,.bool ac,.bool ar]] w fun e w'=>e = .returned (.bool (mayL (sb s) c r))∧Below w.heap.size w w':=by
 by_cases h0:s.size=0
 · have:=sb_nil s h0
   subst this
   have hm:mayL (sb ⟨#[]⟩) c r=decide (0≤c∧c≤701∧0≤r∧r≤998):=by unfold mayL;rw [show decide (sb ⟨#[]⟩=[])=true from by decide,Bool.true_or,Bool.true_and]
   have HM:=Lib.hid hm;clear hm
   go_enter Tryz.func113,Tryz.ntmps113
   go_wp2
   all_goals go_ret
   all_goals exact ⟨ret_bool (by rw [HM.out];first | (symm;rw [decide_eq_true_iff];omega) | (symm;rw [decide_eq_false_iff_not];omega) | (rw [decide_eq_decide];omega)),(Below.refl _ _).alloc (Nat.le_refl _) _⟩
 · have hne:=text_ne0 s h0
   have hm:mayL (sb s) c r=(nameL (sb s)&&decide (0≤c∧c≤701∧0≤r∧r≤998)):=by
    unfold mayL;rw [decide_eq_false (by intro h;have:=length_sb s;rw [h] at this;exact h0 this.symm),Bool.false_or]
   have HM:=Lib.hid hm;clear hm h0
   by_cases hn:nameL (sb s)=true
   · go_enter Tryz.func113,Tryz.ntmps113
     go_wp2_with (first
      | (go_at_call 132;((with_reducible refine (refName_any _ _ ?_).mono ?_);(first | omega | skip);rintro e w' ⟨rfl,rfl⟩)))
     all_goals go_ret
     all_goals exact ⟨ret_bool (by rw [HM.out,hn,Bool.true_and];first | (symm;rw [decide_eq_true_iff];omega) | (symm;rw [decide_eq_false_iff_not];omega) | (rw [decide_eq_decide];omega)),(Below.refl _ _).alloc (Nat.le_refl _) _⟩
   · have hn':nameL (sb s)=false:=by simpa using hn
     clear hn
     go_enter Tryz.func113,Tryz.ntmps113
     go_wp2_with (first
      | (go_at_call 132;((with_reducible refine (refName_any _ _ ?_).mono ?_);(first | omega | skip);rintro e w' ⟨rfl,rfl⟩)))
     all_goals go_ret
     all_goals exact ⟨ret_bool (by rw [HM.out,hn',Bool.false_and]),(Below.refl _ _).alloc (Nat.le_refl _) _⟩
set_option maxRecDepth 100000 in
set_option maxHeartbeats 400000 in
theorem text_enn (s:ByteArray) (c r:Int) (k:Nat) (w:World) (_hs:s.size≤1000000) (h0:s.size=0) (hm:mayL (sb s) c r=true) (hc0:0≤c) (hc1:c≤701) (hr0:0≤r) (hr1:r≤998) (hk:r+1=(k:Int)) (hz1:(strOfNums (colL c)).size≤2) (hz2:(strOfNums (digL k)).size≤1000) :
 Calls Tryz.prog 67 #[.agg #[.string s,.int .i64 c,.int .i64 r,.bool false,.bool false]] w fun e w'=>e = .returned (.string (strOfNums (textL (sb s) c r false false)))∧Below w.heap.size w w':=by
       have hk2:(r+1).toNat=k:=by omega
       have he:sb s=[]:=List.eq_nil_of_length_eq_zero (by rw [length_sb];exact h0)
       have ht:([]++colL c)++digL k=textL (sb s) c r false false:=by unfold textL;rw [if_pos hm,hk2,if_pos he];simp
       have HT:=Lib.hid ht;clear ht hk2 he
       have:=sb_nil s h0
       subst this
       clear h0
       have hR0:=RefAt.new w ⟨#[]⟩ c r false false
       have HR0:=Lib.hid hR0;clear hR0
       go_enter Tryz.func67,Tryz.ntmps67
       go_wp2_with (first
        | (go_at_call 113;((with_reducible refine (refMay_any _ _ _ _ _ _ ?_).mono ?_);(first | omega | skip);rintro e w1 ⟨rfl,h1⟩;have hR1:=HR0.out.below h1 HR0.out.lt;obtain ⟨x0,x1,x2,x3,x4⟩:=hR1.facts;have HR1:=Lib.hid hR1;clear hR1;have H1:=Lib.hid h1;clear h1))
        | (go_at_call 43;((with_reducible refine (refCol_any _ ?_ ?_ _).mono ?_);(first | omega | skip);(first | omega | skip);rintro e w2 ⟨rfl,h2⟩;have hR2:=HR1.out.below h2 HR1.out.lt;clear x0 x1 x2 x3 x4;obtain ⟨x0,x1,x2,x3,x4⟩:=hR2.facts;have HR2:=Lib.hid hR2;clear hR2;have H2:=Lib.hid h2;clear h2))
        | (go_at_call 28;((with_reducible refine (refDigits_nat _ ?_ _).mono ?_);(first | omega | skip);rintro e w3 ⟨rfl,h3⟩;clear x0 x1 x2 x3 x4;have H3:=Lib.hid h3;clear h3)))
       go_ret
       exact ⟨ret_str ((cat_eq (cat_eq str_e (Eq.refl (strOfNums (colL c)))) (Eq.refl (strOfNums (digL k)))).trans (congrArg strOfNums HT.out)),below3 ((Below.refl _ _).alloc (Nat.le_refl _) _) H1.out H2.out H3.out⟩
set_option maxRecDepth 100000 in
set_option maxHeartbeats 400000 in
theorem text_end (s:ByteArray) (c r:Int) (k:Nat) (w:World) (_hs:s.size≤1000000) (h0:s.size=0) (hm:mayL (sb s) c r=true) (hc0:0≤c) (hc1:c≤701) (hr0:0≤r) (hr1:r≤998) (hk:r+1=(k:Int)) (hz1:(strOfNums (colL c)).size≤2) (hz2:(strOfNums (digL k)).size≤1000) :
 Calls Tryz.prog 67 #[.agg #[.string s,.int .i64 c,.int .i64 r,.bool false,.bool true]] w fun e w'=>e = .returned (.string (strOfNums (textL (sb s) c r false true)))∧Below w.heap.size w w':=by
       have hk2:(r+1).toNat=k:=by omega
       have he:sb s=[]:=List.eq_nil_of_length_eq_zero (by rw [length_sb];exact h0)
       have ht:(([]++colL c)++[36])++digL k=textL (sb s) c r false true:=by unfold textL;rw [if_pos hm,hk2,if_pos he];simp
       have HT:=Lib.hid ht;clear ht hk2 he
       have:=sb_nil s h0
       subst this
       clear h0
       have hR0:=RefAt.new w ⟨#[]⟩ c r false true
       have HR0:=Lib.hid hR0;clear hR0
       go_enter Tryz.func67,Tryz.ntmps67
       go_wp2_with (first
        | (go_at_call 113;((with_reducible refine (refMay_any _ _ _ _ _ _ ?_).mono ?_);(first | omega | skip);rintro e w1 ⟨rfl,h1⟩;have hR1:=HR0.out.below h1 HR0.out.lt;obtain ⟨x0,x1,x2,x3,x4⟩:=hR1.facts;have HR1:=Lib.hid hR1;clear hR1;have H1:=Lib.hid h1;clear h1))
        | (go_at_call 43;((with_reducible refine (refCol_any _ ?_ ?_ _).mono ?_);(first | omega | skip);(first | omega | skip);rintro e w2 ⟨rfl,h2⟩;have hR2:=HR1.out.below h2 HR1.out.lt;clear x0 x1 x2 x3 x4;obtain ⟨x0,x1,x2,x3,x4⟩:=hR2.facts;have HR2:=Lib.hid hR2;clear hR2;have H2:=Lib.hid h2;clear h2))
        | (go_at_call 28;((with_reducible refine (refDigits_nat _ ?_ _).mono ?_);(first | omega | skip);rintro e w3 ⟨rfl,h3⟩;clear x0 x1 x2 x3 x4;have H3:=Lib.hid h3;clear h3)))
       go_ret
       exact ⟨ret_str ((cat_eq (cat_eq (cat_eq str_e (Eq.refl (strOfNums (colL c)))) str_d) (Eq.refl (strOfNums (digL k)))).trans (congrArg strOfNums HT.out)),below3 ((Below.refl _ _).alloc (Nat.le_refl _) _) H1.out H2.out H3.out⟩
set_option maxRecDepth 100000 in
set_option maxHeartbeats 400000 in
theorem text_edn (s:ByteArray) (c r:Int) (k:Nat) (w:World) (_hs:s.size≤1000000) (h0:s.size=0) (hm:mayL (sb s) c r=true) (hc0:0≤c) (hc1:c≤701) (hr0:0≤r) (hr1:r≤998) (hk:r+1=(k:Int)) (hz1:(strOfNums (colL c)).size≤2) (hz2:(strOfNums (digL k)).size≤1000) :
 Calls Tryz.prog 67 #[.agg #[.string s,.int .i64 c,.int .i64 r,.bool true,.bool false]] w fun e w'=>e = .returned (.string (strOfNums (textL (sb s) c r true false)))∧Below w.heap.size w w':=by
       have hk2:(r+1).toNat=k:=by omega
       have he:sb s=[]:=List.eq_nil_of_length_eq_zero (by rw [length_sb];exact h0)
       have ht:(([]++[36])++colL c)++digL k=textL (sb s) c r true false:=by unfold textL;rw [if_pos hm,hk2,if_pos he];simp
       have HT:=Lib.hid ht;clear ht hk2 he
       have:=sb_nil s h0
       subst this
       clear h0
       have hR0:=RefAt.new w ⟨#[]⟩ c r true false
       have HR0:=Lib.hid hR0;clear hR0
       go_enter Tryz.func67,Tryz.ntmps67
       go_wp2_with (first
        | (go_at_call 113;((with_reducible refine (refMay_any _ _ _ _ _ _ ?_).mono ?_);(first | omega | skip);rintro e w1 ⟨rfl,h1⟩;have hR1:=HR0.out.below h1 HR0.out.lt;obtain ⟨x0,x1,x2,x3,x4⟩:=hR1.facts;have HR1:=Lib.hid hR1;clear hR1;have H1:=Lib.hid h1;clear h1))
        | (go_at_call 43;((with_reducible refine (refCol_any _ ?_ ?_ _).mono ?_);(first | omega | skip);(first | omega | skip);rintro e w2 ⟨rfl,h2⟩;have hR2:=HR1.out.below h2 HR1.out.lt;clear x0 x1 x2 x3 x4;obtain ⟨x0,x1,x2,x3,x4⟩:=hR2.facts;have HR2:=Lib.hid hR2;clear hR2;have H2:=Lib.hid h2;clear h2))
        | (go_at_call 28;((with_reducible refine (refDigits_nat _ ?_ _).mono ?_);(first | omega | skip);rintro e w3 ⟨rfl,h3⟩;clear x0 x1 x2 x3 x4;have H3:=Lib.hid h3;clear h3)))
       go_ret
       exact ⟨ret_str ((cat_eq (cat_eq (cat_eq str_e str_d) (Eq.refl (strOfNums (colL c)))) (Eq.refl (strOfNums (digL k)))).trans (congrArg strOfNums HT.out)),below3 ((Below.refl _ _).alloc (Nat.le_refl _) _) H1.out H2.out H3.out⟩
set_option maxRecDepth 100000 in
set_option maxHeartbeats 400000 in
theorem text_edd (s:ByteArray) (c r:Int) (k:Nat) (w:World) (_hs:s.size≤1000000) (h0:s.size=0) (hm:mayL (sb s) c r=true) (hc0:0≤c) (hc1:c≤701) (hr0:0≤r) (hr1:r≤998) (hk:r+1=(k:Int)) (hz1:(strOfNums (colL c)).size≤2) (hz2:(strOfNums (digL k)).size≤1000) :
 Calls Tryz.prog 67 #[.agg #[.string s,.int .i64 c,.int .i64 r,.bool true,.bool true]] w fun e w'=>e = .returned (.string (strOfNums (textL (sb s) c r true true)))∧Below w.heap.size w w':=by
       have hk2:(r+1).toNat=k:=by omega
       have he:sb s=[]:=List.eq_nil_of_length_eq_zero (by rw [length_sb];exact h0)
       have ht:((([]++[36])++colL c)++[36])++digL k=textL (sb s) c r true true:=by unfold textL;rw [if_pos hm,hk2,if_pos he];simp
       have HT:=Lib.hid ht;clear ht hk2 he
       have:=sb_nil s h0
       subst this
       clear h0
       have hR0:=RefAt.new w ⟨#[]⟩ c r true true
       have HR0:=Lib.hid hR0;clear hR0
       go_enter Tryz.func67,Tryz.ntmps67
       go_wp2_with (first
        | (go_at_call 113;((with_reducible refine (refMay_any _ _ _ _ _ _ ?_).mono ?_);(first | omega | skip);rintro e w1 ⟨rfl,h1⟩;have hR1:=HR0.out.below h1 HR0.out.lt;obtain ⟨x0,x1,x2,x3,x4⟩:=hR1.facts;have HR1:=Lib.hid hR1;clear hR1;have H1:=Lib.hid h1;clear h1))
        | (go_at_call 43;((with_reducible refine (refCol_any _ ?_ ?_ _).mono ?_);(first | omega | skip);(first | omega | skip);rintro e w2 ⟨rfl,h2⟩;have hR2:=HR1.out.below h2 HR1.out.lt;clear x0 x1 x2 x3 x4;obtain ⟨x0,x1,x2,x3,x4⟩:=hR2.facts;have HR2:=Lib.hid hR2;clear hR2;have H2:=Lib.hid h2;clear h2))
        | (go_at_call 28;((with_reducible refine (refDigits_nat _ ?_ _).mono ?_);(first | omega | skip);rintro e w3 ⟨rfl,h3⟩;clear x0 x1 x2 x3 x4;have H3:=Lib.hid h3;clear h3)))
       go_ret
       exact ⟨ret_str ((cat_eq (cat_eq (cat_eq (cat_eq str_e str_d) (Eq.refl (strOfNums (colL c)))) str_d) (Eq.refl (strOfNums (digL k)))).trans (congrArg strOfNums HT.out)),below3 ((Below.refl _ _).alloc (Nat.le_refl _) _) H1.out H2.out H3.out⟩
set_option maxRecDepth 100000 in
set_option maxHeartbeats 400000 in
theorem text_snn (s:ByteArray) (c r:Int) (k:Nat) (w:World) (_hs:s.size≤1000000) (h0:¬ s.size=0) (hm:mayL (sb s) c r=true) (hc0:0≤c) (hc1:c≤701) (hr0:0≤r) (hr1:r≤998) (hk:r+1=(k:Int)) (hz1:(strOfNums (colL c)).size≤2) (hz2:(strOfNums (digL k)).size≤1000) :
 Calls Tryz.prog 67 #[.agg #[.string s,.int .i64 c,.int .i64 r,.bool false,.bool false]] w fun e w'=>e = .returned (.string (strOfNums (textL (sb s) c r false false)))∧Below w.heap.size w w':=by
       have hk2:(r+1).toNat=k:=by omega
       have he:¬ sb s=[]:=by intro h;have:=length_sb s;rw [h] at this;exact h0 this.symm
       have ht:((sb s++[33])++colL c)++digL k=textL (sb s) c r false false:=by unfold textL;rw [if_pos hm,hk2,if_neg he];simp
       have HT:=Lib.hid ht;clear ht hk2 he
       have hne:s.toList.isEmpty=false:=by cases hq:s.toList with | nil=>exact absurd hq (text_ne0 s h0) | cons a l=>rfl
       clear h0
       have hR0:=RefAt.new w s c r false false
       have HR0:=Lib.hid hR0;clear hR0
       go_enter Tryz.func67,Tryz.ntmps67
       go_wp2_with (first
        | (go_at_call 113;((with_reducible refine (refMay_any _ _ _ _ _ _ ?_).mono ?_);(first | omega | skip);rintro e w1 ⟨rfl,h1⟩;have hR1:=HR0.out.below h1 HR0.out.lt;obtain ⟨x0,x1,x2,x3,x4⟩:=hR1.facts;have HR1:=Lib.hid hR1;clear hR1;have H1:=Lib.hid h1;clear h1))
        | (go_at_call 43;((with_reducible refine (refCol_any _ ?_ ?_ _).mono ?_);(first | omega | skip);(first | omega | skip);rintro e w2 ⟨rfl,h2⟩;have hR2:=HR1.out.below h2 HR1.out.lt;clear x0 x1 x2 x3 x4;obtain ⟨x0,x1,x2,x3,x4⟩:=hR2.facts;have HR2:=Lib.hid hR2;clear hR2;have H2:=Lib.hid h2;clear h2))
        | (go_at_call 28;((with_reducible refine (refDigits_nat _ ?_ _).mono ?_);(first | omega | skip);rintro e w3 ⟨rfl,h3⟩;clear x0 x1 x2 x3 x4;have H3:=Lib.hid h3;clear h3)))
       go_ret
       exact ⟨ret_str ((cat_eq (cat_eq (cat_eq (str_sb s).symm str_b) (Eq.refl (strOfNums (colL c)))) (Eq.refl (strOfNums (digL k)))).trans (congrArg strOfNums HT.out)),below3 ((Below.refl _ _).alloc (Nat.le_refl _) _) H1.out H2.out H3.out⟩
set_option maxRecDepth 100000 in
set_option maxHeartbeats 400000 in
theorem text_snd (s:ByteArray) (c r:Int) (k:Nat) (w:World) (_hs:s.size≤1000000) (h0:¬ s.size=0) (hm:mayL (sb s) c r=true) (hc0:0≤c) (hc1:c≤701) (hr0:0≤r) (hr1:r≤998) (hk:r+1=(k:Int)) (hz1:(strOfNums (colL c)).size≤2) (hz2:(strOfNums (digL k)).size≤1000) :
 Calls Tryz.prog 67 #[.agg #[.string s,.int .i64 c,.int .i64 r,.bool false,.bool true]] w fun e w'=>e = .returned (.string (strOfNums (textL (sb s) c r false true)))∧Below w.heap.size w w':=by
       have hk2:(r+1).toNat=k:=by omega
       have he:¬ sb s=[]:=by intro h;have:=length_sb s;rw [h] at this;exact h0 this.symm
       have ht:(((sb s++[33])++colL c)++[36])++digL k=textL (sb s) c r false true:=by unfold textL;rw [if_pos hm,hk2,if_neg he];simp
       have HT:=Lib.hid ht;clear ht hk2 he
       have hne:s.toList.isEmpty=false:=by cases hq:s.toList with | nil=>exact absurd hq (text_ne0 s h0) | cons a l=>rfl
       clear h0
       have hR0:=RefAt.new w s c r false true
       have HR0:=Lib.hid hR0;clear hR0
       go_enter Tryz.func67,Tryz.ntmps67
       go_wp2_with (first
        | (go_at_call 113;((with_reducible refine (refMay_any _ _ _ _ _ _ ?_).mono ?_);(first | omega | skip);rintro e w1 ⟨rfl,h1⟩;have hR1:=HR0.out.below h1 HR0.out.lt;obtain ⟨x0,x1,x2,x3,x4⟩:=hR1.facts;have HR1:=Lib.hid hR1;clear hR1;have H1:=Lib.hid h1;clear h1))
        | (go_at_call 43;((with_reducible refine (refCol_any _ ?_ ?_ _).mono ?_);(first | omega | skip);(first | omega | skip);rintro e w2 ⟨rfl,h2⟩;have hR2:=HR1.out.below h2 HR1.out.lt;clear x0 x1 x2 x3 x4;obtain ⟨x0,x1,x2,x3,x4⟩:=hR2.facts;have HR2:=Lib.hid hR2;clear hR2;have H2:=Lib.hid h2;clear h2))
        | (go_at_call 28;((with_reducible refine (refDigits_nat _ ?_ _).mono ?_);(first | omega | skip);rintro e w3 ⟨rfl,h3⟩;clear x0 x1 x2 x3 x4;have H3:=Lib.hid h3;clear h3)))
       go_ret
       exact ⟨ret_str ((cat_eq (cat_eq (cat_eq (cat_eq (str_sb s).symm str_b) (Eq.refl (strOfNums (colL c)))) str_d) (Eq.refl (strOfNums (digL k)))).trans (congrArg strOfNums HT.out)),below3 ((Below.refl _ _).alloc (Nat.le_refl _) _) H1.out H2.out H3.out⟩
set_option maxRecDepth 100000 in
set_option maxHeartbeats 400000 in
theorem text_sdn (s:ByteArray) (c r:Int) (k:Nat) (w:World) (_hs:s.size≤1000000) (h0:¬ s.size=0) (hm:mayL (sb s) c r=true) (hc0:0≤c) (hc1:c≤701) (hr0:0≤r) (hr1:r≤998) (hk:r+1=(k:Int)) (hz1:(strOfNums (colL c)).size≤2) (hz2:(strOfNums (digL k)).size≤1000) :
 Calls Tryz.prog 67 #[.agg #[.string s,.int .i64 c,.int .i64 r,.bool true,.bool false]] w fun e w'=>e = .returned (.string (strOfNums (textL (sb s) c r true false)))∧Below w.heap.size w w':=by
       have hk2:(r+1).toNat=k:=by omega
       have he:¬ sb s=[]:=by intro h;have:=length_sb s;rw [h] at this;exact h0 this.symm
       have ht:(((sb s++[33])++[36])++colL c)++digL k=textL (sb s) c r true false:=by unfold textL;rw [if_pos hm,hk2,if_neg he];simp
       have HT:=Lib.hid ht;clear ht hk2 he
       have hne:s.toList.isEmpty=false:=by cases hq:s.toList with | nil=>exact absurd hq (text_ne0 s h0) | cons a l=>rfl
       clear h0
       have hR0:=RefAt.new w s c r true false
       have HR0:=Lib.hid hR0;clear hR0
       go_enter Tryz.func67,Tryz.ntmps67
       go_wp2_with (first
        | (go_at_call 113;((with_reducible refine (refMay_any _ _ _ _ _ _ ?_).mono ?_);(first | omega | skip);rintro e w1 ⟨rfl,h1⟩;have hR1:=HR0.out.below h1 HR0.out.lt;obtain ⟨x0,x1,x2,x3,x4⟩:=hR1.facts;have HR1:=Lib.hid hR1;clear hR1;have H1:=Lib.hid h1;clear h1))
        | (go_at_call 43;((with_reducible refine (refCol_any _ ?_ ?_ _).mono ?_);(first | omega | skip);(first | omega | skip);rintro e w2 ⟨rfl,h2⟩;have hR2:=HR1.out.below h2 HR1.out.lt;clear x0 x1 x2 x3 x4;obtain ⟨x0,x1,x2,x3,x4⟩:=hR2.facts;have HR2:=Lib.hid hR2;clear hR2;have H2:=Lib.hid h2;clear h2))
        | (go_at_call 28;((with_reducible refine (refDigits_nat _ ?_ _).mono ?_);(first | omega | skip);rintro e w3 ⟨rfl,h3⟩;clear x0 x1 x2 x3 x4;have H3:=Lib.hid h3;clear h3)))
       go_ret
       exact ⟨ret_str ((cat_eq (cat_eq (cat_eq (cat_eq (str_sb s).symm str_b) str_d) (Eq.refl (strOfNums (colL c)))) (Eq.refl (strOfNums (digL k)))).trans (congrArg strOfNums HT.out)),below3 ((Below.refl _ _).alloc (Nat.le_refl _) _) H1.out H2.out H3.out⟩
set_option maxRecDepth 100000 in
set_option maxHeartbeats 400000 in
theorem text_sdd (s:ByteArray) (c r:Int) (k:Nat) (w:World) (_hs:s.size≤1000000) (h0:¬ s.size=0) (hm:mayL (sb s) c r=true) (hc0:0≤c) (hc1:c≤701) (hr0:0≤r) (hr1:r≤998) (hk:r+1=(k:Int)) (hz1:(strOfNums (colL c)).size≤2) (hz2:(strOfNums (digL k)).size≤1000) :
 Calls Tryz.prog 67 #[.agg #[.string s,.int .i64 c,.int .i64 r,.bool true,.bool true]] w fun e w'=>e = .returned (.string (strOfNums (textL (sb s) c r true true)))∧Below w.heap.size w w':=by
       have hk2:(r+1).toNat=k:=by omega
       have he:¬ sb s=[]:=by intro h;have:=length_sb s;rw [h] at this;exact h0 this.symm
       have ht:((((sb s++[33])++[36])++colL c)++[36])++digL k=textL (sb s) c r true true:=by unfold textL;rw [if_pos hm,hk2,if_neg he];simp
       have HT:=Lib.hid ht;clear ht hk2 he
       have hne:s.toList.isEmpty=false:=by cases hq:s.toList with | nil=>exact absurd hq (text_ne0 s h0) | cons a l=>rfl
       clear h0
       have hR0:=RefAt.new w s c r true true
       have HR0:=Lib.hid hR0;clear hR0
       go_enter Tryz.func67,Tryz.ntmps67
       go_wp2_with (first
        | (go_at_call 113;((with_reducible refine (refMay_any _ _ _ _ _ _ ?_).mono ?_);(first | omega | skip);rintro e w1 ⟨rfl,h1⟩;have hR1:=HR0.out.below h1 HR0.out.lt;obtain ⟨x0,x1,x2,x3,x4⟩:=hR1.facts;have HR1:=Lib.hid hR1;clear hR1;have H1:=Lib.hid h1;clear h1))
        | (go_at_call 43;((with_reducible refine (refCol_any _ ?_ ?_ _).mono ?_);(first | omega | skip);(first | omega | skip);rintro e w2 ⟨rfl,h2⟩;have hR2:=HR1.out.below h2 HR1.out.lt;clear x0 x1 x2 x3 x4;obtain ⟨x0,x1,x2,x3,x4⟩:=hR2.facts;have HR2:=Lib.hid hR2;clear hR2;have H2:=Lib.hid h2;clear h2))
        | (go_at_call 28;((with_reducible refine (refDigits_nat _ ?_ _).mono ?_);(first | omega | skip);rintro e w3 ⟨rfl,h3⟩;clear x0 x1 x2 x3 x4;have H3:=Lib.hid h3;clear h3)))
       go_ret
       exact ⟨ret_str ((cat_eq (cat_eq (cat_eq (cat_eq (cat_eq (str_sb s).symm str_b) str_d) (Eq.refl (strOfNums (colL c)))) str_d) (Eq.refl (strOfNums (digL k)))).trans (congrArg strOfNums HT.out)),below3 ((Below.refl _ _).alloc (Nat.le_refl _) _) H1.out H2.out H3.out⟩
set_option maxRecDepth 100000 in
set_option maxHeartbeats 400000 in
theorem refText_any (s:ByteArray) (c r:Int) (ac ar:Bool) (w:World) (_hs:s.size≤1000000) :
 Calls Tryz.prog 67 #[.agg #[.string s,.int .i64 c,.int .i64 r,.bool ac,.bool ar]] w fun e w'=>e = .returned (.string (strOfNums (textL (sb s) c r ac ar)))∧Below w.heap.size w w':=by
 by_cases hm:mayL (sb s) c r=true
 · obtain ⟨hc0,hc1,hr0,hr1⟩:=mayL_parts hm
   have hl1:=length_colL c
   obtain ⟨k,hk⟩:∃ k:Nat,r+1=(k:Int):=⟨(r+1).toNat,by omega⟩
   have hl2:=length_digL k
   have hz1:(strOfNums (colL c)).size≤2:=by rw [strOfNums_size];exact hl1
   have hz2:(strOfNums (digL k)).size≤1000:=by rw [strOfNums_size];omega
   by_cases h0:s.size=0
   · cases ac <;> cases ar
     · exact text_enn s c r k w _hs h0 hm hc0 hc1 hr0 hr1 hk hz1 hz2
     · exact text_end s c r k w _hs h0 hm hc0 hc1 hr0 hr1 hk hz1 hz2
     · exact text_edn s c r k w _hs h0 hm hc0 hc1 hr0 hr1 hk hz1 hz2
     · exact text_edd s c r k w _hs h0 hm hc0 hc1 hr0 hr1 hk hz1 hz2
   · cases ac <;> cases ar
     · exact text_snn s c r k w _hs h0 hm hc0 hc1 hr0 hr1 hk hz1 hz2
     · exact text_snd s c r k w _hs h0 hm hc0 hc1 hr0 hr1 hk hz1 hz2
     · exact text_sdn s c r k w _hs h0 hm hc0 hc1 hr0 hr1 hk hz1 hz2
     · exact text_sdd s c r k w _hs h0 hm hc0 hc1 hr0 hr1 hk hz1 hz2
 · have hm':mayL (sb s) c r=false:=by simpa using hm
   have ht:textL (sb s) c r ac ar=[]:=by unfold textL;rw [if_neg hm]
   have HT:=Lib.hid ht;clear ht hm
   go_enter Tryz.func67,Tryz.ntmps67
   go_wp2_with (first
    | (go_at_call 113;((with_reducible refine (refMay_any _ _ _ _ _ _ ?_).mono ?_);(first | omega | skip);rintro e w1 ⟨rfl,h1⟩;have H1:=Lib.hid h1;clear h1)))
   go_ret
   exact ⟨by rw [HT.out];rfl,((Below.refl _ _).alloc (Nat.le_refl _) _).trans (H1.out.mono ((Below.refl _ _).alloc (Nat.le_refl _) _).size)⟩
def Rd.absColF (d:Rd):Rd:={ d with ac:=d.mark,k:=d.k+(dol d.mark).length }
def Rd.colF (d:Rd):Rd:={ d with c:=readColL (d.rest.takeWhile isCap),k:=d.k+(d.rest.takeWhile isCap).length }
def Rd.absRowF (d:Rd):Rd:={ d with ar:=d.mark,k:=d.k+(dol d.mark).length }
def Rd.at4 (d:Rd):Rd:=d.absColF.colF.absRowF
theorem length_digL3 (u:Nat) (h:u≤999):(digL u).length≤3:=by
 by_cases h1:u<10
 · rw [digL_small u h1];simp
 · rw [digL_more u h1,List.length_append]
   by_cases h2:u / 10<10
   · rw [digL_small _ h2];simp
   · rw [digL_more _ h2,List.length_append,digL_small _ (by omega)];simp
theorem isRow_len {l:List Int} (hall:∀ x∈l,isNum x=true) (h:isRow l=true):l.length≤3:=by
 obtain ⟨h1,h2,h3⟩:=isRow_parts h
 obtain ⟨h4,h5⟩:=digL_valL _ _ rfl h1 hall h2
 rw [← h5];exact length_digL3 _ (by omega)
theorem cand_of (s:ByteArray) (d1 d:Rd) (h1:∀ e,(Rd.start s).sheet=some e→e=d1) (hs:d1.s=s) (h:readS s=some d) :
 isCol (d1.absColF.rest.takeWhile isCap)=true∧(∀ x∈d1.at4.rest,isNum x=true)∧d1.at4.rest.length≤3∧d.sh=d1.at4.sh∧d.c=d1.at4.c∧d.ac=d1.at4.ac∧d.ar=d1.at4.ar∧d.r=valL d1.at4.rest - 1:=by
 unfold readS at h
 simp only [Option.bind_eq_some_iff] at h
 obtain ⟨d5,⟨d4,⟨d3,⟨d2,⟨e1,g1,g2⟩,g3⟩,g4⟩,g5⟩,g6⟩:=h
 have:=h1 e1 g1
 subst this
 have e2:d2=e1.absColF:=by unfold Rd.absCol at g2;injection g2 with g2;exact g2.symm
 subst e2
 unfold Rd.col at g3
 by_cases hc:isCol (e1.absColF.rest.takeWhile isCap)=true
 · rw [if_pos hc] at g3
   have e3:d3=e1.absColF.colF:=by injection g3 with g3;exact g3.symm
   subst e3
   have e4:d4=e1.at4:=by unfold Rd.absRow at g4;injection g4 with g4;exact g4.symm
   subst e4
   unfold Rd.row at g5
   by_cases hr:isRow (e1.at4.rest.takeWhile isNum)=true
   · rw [if_pos hr] at g5;injection g5 with g5;subst g5
     unfold Rd.fin at g6
     by_cases hk:e1.at4.k+(e1.at4.rest.takeWhile isNum).length=e1.at4.s.size
     · rw [if_pos hk] at g6;injection g6 with g6;subst g6
       have hl:=length_rest e1.at4
       have hsp:=take_split isNum e1.at4.rest
       have hdrop:e1.at4.rest.drop (e1.at4.rest.takeWhile isNum).length=[]:=by rw [List.drop_eq_nil_iff];omega
       rw [hdrop,List.append_nil] at hsp
       have hall:=take_all isNum e1.at4.rest
       have hlen:=isRow_len hall hr
       rw [hsp] at hall hlen
       refine ⟨hc,hall,hlen,rfl,rfl,rfl,rfl, ?_⟩
       show valL (e1.at4.rest.takeWhile isNum) - 1=_
       rw [hsp]
     · rw [if_neg hk] at g6;cases g6
   · rw [if_neg hr] at g5;cases g5
 · rw [if_neg hc] at g3;cases g3
structure RSt (w wr:World) (sh:ByteArray) (c r:Int) (ac ar:Bool):Prop where
 res:RefAt wr w.heap.size ⟨#[]⟩ 0 0 false false
 ref:RefAt wr (w.heap.size+1) sh c r ac ar
 below:Below w.heap.size w wr
theorem RefAt.drewN {w:World} {b:Nat} {s:ByteArray} {c r:Int} {ac ar:Bool} (h:RefAt w b s c r ac ar) (n:Nat):RefAt (w.drewN n) b s c r ac ar:=h
theorem RefAt.frozen {w:World} {b:Nat} {s:ByteArray} {c r:Int} {ac ar:Bool} (h:RefAt w b s c r ac ar) (j:Nat):w.frozen? ⟨b,j,none⟩=false:=frozen_of_row w b j _ _ h
theorem RefAt.other {w:World} {b:Nat} {s:ByteArray} {c r:Int} {ac ar:Bool} (h:RefAt w b s c r ac ar) (a:Addr) (v:Value) (hne:b≠a.block):RefAt (w.setCell a v) b s c r ac ar:=by
 unfold RefAt;rw [heap_setCell_other w a b v hne];exact h
theorem RSt.drewN {w wr:World} {sh:ByteArray} {c r:Int} {ac ar:Bool} (h:RSt w wr sh c r ac ar) (n:Nat):RSt w (wr.drewN n) sh c r ac ar:=⟨h.res.drewN n,h.ref.drewN n,⟨h.below.os,h.below.tape,h.below.output,h.below.size,h.below.block⟩⟩
theorem RSt.next {w wr w2:World} {sh:ByteArray} {c r:Int} {ac ar:Bool} (h:RSt w wr sh c r ac ar) (hb:Below wr.heap.size wr w2):RSt w w2 sh c r ac ar :=
 ⟨h.res.below hb h.res.lt,h.ref.below hb h.ref.lt,h.below.trans (hb.mono h.below.size)⟩
theorem RSt.set (i:Nat) {w wr:World} {sh:ByteArray} {c r:Int} {ac ar:Bool} (h:RSt w wr sh c r ac ar) (v:Value) (sh':ByteArray) (c' r':Int) (ac' ar':Bool)
 (hv:(#[.string sh,.int .i64 c,.int .i64 r,.bool ac,.bool ar]:Array Value).setIfInBounds i v=#[.string sh',.int .i64 c',.int .i64 r',.bool ac',.bool ar']):RSt w (wr.setCell ⟨w.heap.size+1,i,none⟩ v) sh' c' r' ac' ar':=by
 refine ⟨h.res.other _ _ (by show w.heap.size≠w.heap.size+1;omega), ?_,h.below.setCell (by show w.heap.size≤w.heap.size+1;omega) _⟩
 have hr:=h.ref
 unfold RefAt at hr ⊢
 rw [heap_setCell_same wr (w.heap.size+1) i _ _ _ hr,hv]
theorem ext_sb (s:ByteArray) (a m:Nat):sb (s.extract a (a+m))=((sb s).drop a).take m:=by
 unfold sb;rw [← List.map_drop, ← List.map_take];congr 1
 rw [ByteArray.data_extract,Array.toList_extract]
 rw [List.extract_eq_take_drop]
 congr 1;omega
theorem rd_at (d:Rd) (m:Nat) (h:d.k+m<d.s.size):d.rest[m]? = some ((d.s[d.k+m].toNat:Nat):Int):=by
 unfold Rd.rest;rw [List.getElem?_drop,sb_at d.s _ h]
theorem take_nx (d:Rd) (s:ByteArray) (m p:Nat) (a:Int) (hs:d.s=s) (hp:d.k+m=p) (h:p<s.size) (ha:((s[p].toNat:Nat):Int)=a):d.rest.take (m+1)=d.rest.take m++[a]∧d.rest[m]? = some a:=by
 subst hs;subst hp;subst ha
 exact ⟨take_next d m h,rd_at d m h⟩
theorem val_bd4 (l:List Int) (h:∀ x∈l,isNum x=true) (hl:l.length≤4):0≤valL l∧valL l≤9999:=by
 match l,hl,h with
 | [],_,_=>exact ⟨by decide,by decide⟩
 | [a],_,h =>
   have h1:=num_bd (h a (by simp))
   unfold valL;simp only [List.foldl_cons,List.foldl_nil];omega
 | [a,b],_,h =>
   have h1:=num_bd (h a (by simp));have h2:=num_bd (h b (by simp))
   unfold valL;simp only [List.foldl_cons,List.foldl_nil];omega
 | [a,b,c],_,h =>
   have h1:=num_bd (h a (by simp));have h2:=num_bd (h b (by simp));have h3:=num_bd (h c (by simp))
   unfold valL;simp only [List.foldl_cons,List.foldl_nil];omega
 | [a,b,c,d],_,h =>
   have h1:=num_bd (h a (by simp));have h2:=num_bd (h b (by simp));have h3:=num_bd (h c (by simp));have h4:=num_bd (h d (by simp))
   unfold valL;simp only [List.foldl_cons,List.foldl_nil];omega
theorem span_take (p:Int→Bool) (d:Rd):((sb d.s).drop d.k).take (d.rest.takeWhile p).length=d.rest.takeWhile p:=by
 have e:=take_split p d.rest
 have h:(d.rest.takeWhile p++d.rest.drop (d.rest.takeWhile p).length).take (d.rest.takeWhile p).length=d.rest.takeWhile p:=List.take_left
 rw [e] at h;exact h
theorem ref_size:(Tryz.prog.info? 59).map (·.size)=some 5:=by kernel_rfl
theorem wpList_store_ref {ops:Array Oper} {rest:List Oper} {op:Oper} {a:Act} {w:World} {Q:Exit→Act→World→Prop} (hgd:op.guard=none) (x y:Operand) (ho:op.op = .store 59 x y)
 (g:Nat) (s0:ByteArray) (c0 r0:Int) (ac0 ar0:Bool) (s:ByteArray) (c r:Int) (ac ar:Bool) (hx:a.eval x = .pointer (some ⟨g,0,none⟩)) (hy:a.eval y = .agg #[.string s,.int .i64 c,.int .i64 r,.bool ac,.bool ar]) (hr:RefAt w g s0 c0 r0 ac0 ar0)
 (h:∀ w',RefAt w' g s c r ac ar→w.grownBy w' (some g)→wpList Tryz.prog ops Q rest (a.put op.dst undef) w'):wpList Tryz.prog ops Q (op :: rest) a w:=by
 refine wpList_store_row hgd 59 x y ho g 59 _ _ hx hy hr rfl ref_size ?_ (h _ (setRow_heap w g _ _ _ _ hr) (grownBy.setRow' (grownBy.refl' w _) _))
 intro v hv
 simp only [List.mem_cons,List.not_mem_nil,or_false] at hv
 rcases hv with rfl | rfl | rfl | rfl | rfl <;> rfl
theorem RefAt.load {w:World} {b:Nat} {s:ByteArray} {c r:Int} {ac ar:Bool} (h:RefAt w b s c r ac ar):(loadVar 59 ⟨b,0,none⟩).run Tryz.prog w = .ok (.agg #[.string s,.int .i64 c,.int .i64 r,.bool ac,.bool ar]) w :=
 run_loadVar_row w b 59 59 _ _ _ h Tryz.underlying59 rfl ref_size
theorem out_ref {w:World} {b:Nat} {s:ByteArray} {c r:Int} {ac ar:Bool} (h:RefAt w b s c r ac ar) (fn:Func) (tmps:Array Value) (ok:Bool) (p u:Tmp) (hf:fn.results=#[.cell p 59,.tmp u]) (hp:tmps.getD p undef = .pointer (some ⟨b,0,none⟩)) (hu:tmps.getD u undef = .bool ok) :
 (results fn tmps).run Tryz.prog w = .ok (.tuple #[.agg #[.string s,.int .i64 c,.int .i64 r,.bool ac,.bool ar],.bool ok]) w:=by
 rw [results_cell_tmp hf,hp,hu]
 simp [asAddr,h.load,Result.andThen]
theorem res_ReadRef:Tryz.f111.results=#[.cell 2 59,.tmp 3]:=by kernel_rfl
theorem rd_past (d:Rd) (m:Nat) (h:d.s.size≤d.k+m):d.rest[m]? = none:=by
 rw [List.getElem?_eq_none_iff,length_rest];omega
theorem mark_t (d:Rd) (h:d.k<d.s.size) (h2:((d.s[d.k].toNat:Nat):Int)=36):d.mark=true:=by
 unfold Rd.mark;rw [rest_get d h,h2];rfl
theorem mark_f (d:Rd) (h:d.k<d.s.size) (h2:¬ ((d.s[d.k].toNat:Nat):Int)=36):d.mark=false:=by
 unfold Rd.mark;rw [rest_get d h,decide_eq_false_iff_not];intro h3;injection h3 with h3;exact h2 h3
theorem mark_ts (d:Rd) (s:ByteArray) (hs:d.s=s) (h:d.k<s.size) (h2:((s[d.k].toNat:Nat):Int)=36):d.mark=true:=by subst hs;exact mark_t d h h2
theorem mark_fs (d:Rd) (s:ByteArray) (hs:d.s=s) (h:d.k<s.size) (h2:¬ ((s[d.k].toNat:Nat):Int)=36):d.mark=false:=by subst hs;exact mark_f d h h2
theorem absColF_k (d:Rd):d.absColF.k=d.k+(dol d.mark).length:=rfl
theorem absRowF_k (d:Rd):d.absRowF.k=d.k+(dol d.mark).length:=rfl
theorem mark_e (d:Rd) (h:d.s.size≤d.k):d.mark=false:=by unfold Rd.mark;rw [rest_end d h];rfl
theorem mark_es (d:Rd) (s:ByteArray) (hs:d.s=s) (h:s.size≤d.k):d.mark=false:=by subst hs;exact mark_e d h
set_option maxRecDepth 100000 in
set_option maxHeartbeats 1000000 in
theorem refRead_main (s:ByteArray) (w:World) (_hs:s.size≤1000000) (d1:Rd) (hs1:d1.s=s) (hk1:d1.k≤s.size) (hsheet:∀ e,(Rd.start s).sheet=some e→e=d1) (m:Nat)
 (hd1:(m=s.size∧d1.k=0∧d1.sh=⟨#[]⟩)∨(m<s.size∧0<m∧d1.k=m+1∧d1.sh=s.extract 0 m∧∀ h:m<s.size,((s[m].toNat:Nat):Int)=33)) (hbytes:∀ (k:Nat) (h:k<s.size),k<m→¬ ((s[k].toNat:Nat):Int)=33) :
 Calls Tryz.prog 111 #[.string s] w fun e w'=>Says (sb s) e∧Below w.heap.size w w':=by
 have hst:RSt w ((w.alloc (.cells #[.string ⟨#[]⟩,.int .i64 0,.int .i64 0,.bool false,.bool false] 59)).alloc (.cells #[.string ⟨#[]⟩,.int .i64 0,.int .i64 0,.bool false,.bool false] 59)) ⟨#[]⟩ 0 0 false false:=by
  have h0:=RefAt.new w ⟨#[]⟩ 0 0 false false
  have hsz:(w.alloc (.cells #[.string ⟨#[]⟩,.int .i64 0,.int .i64 0,.bool false,.bool false] 59)).heap.size=w.heap.size+1:=by simp
  have h1:=RefAt.new (w.alloc (.cells #[.string ⟨#[]⟩,.int .i64 0,.int .i64 0,.bool false,.bool false] 59)) ⟨#[]⟩ 0 0 false false
  rw [hsz] at h1
  exact ⟨h0.below ((Below.refl _ _).alloc (Nat.le_refl _) _) h0.lt,h1,((Below.refl _ _).alloc (Nat.le_refl _) _).alloc (by rw [hsz];omega) _⟩
 have HST:=Lib.hid hst;clear hst
 have HS1:=Lib.hid hs1;clear hs1
 have HSHT:=Lib.hid hsheet;clear hsheet
 have hshz:d1.sh.size≤1000000:=by
  rcases hd1 with ⟨_,_,h⟩ | ⟨_,_,_,h,_⟩
  · rw [h];exact Nat.zero_le _
  · rw [h,ByteArray.size_extract];omega
 have HD1:=Lib.hid hd1;clear hd1
 have HBY:=Lib.hid hbytes;clear hbytes
 go_enter Tryz.func111,Tryz.ntmps111
 go_upto_block 0 with (fail)
 go_cut [5] (fun at_ wx=>at_ = .int .i64 (d1.k:Int)∧RSt w wx d1.sh 0 0 false false)
 case first =>
  go_wp2_with fail
  go_loopw [5,6] (fun at_ i wr=>∃ k:Nat,k≤s.size∧k≤m∧at_ = .int .i64 0∧i = .int .i64 k∧Hid (RSt w wr ⟨#[]⟩ 0 0 false false))
   (fun _ i _=>s.size - (intOf i).toNat)
  case atStart=>exact ⟨0,by omega,by omega,rfl,rfl,HST⟩
  case round =>
   clear HST
   obtain ⟨k,hk,hkm,rfl,rfl,HST⟩:=hrel
   by_cases hlt:k<s.size
   · have hki:(k:Int)<(s.size:Int):=by omega
     obtain ⟨a,ha⟩:∃ a:Int,(s[k].toNat:Int)=a:=⟨_,rfl⟩
     by_cases hm:k<m
     · have ha33:(a == 33)=false:=beq_eq_false_iff_ne.2 (by rw [← ha];exact HBY.out k hlt hm)
       go_wp2_with fail
       go_roundw
       case rel=>exact ⟨k+1,by omega,by omega,rfl,by go_num,HST⟩
       case measure=>simp [intOf];omega
     · obtain rfl:k=m:=by omega
       have hd:=HD1.out.resolve_left (by omega)
       have ha33:(a == 33)=true:=beq_iff_eq.2 (by rw [← ha];exact hd.2.2.2.2 hlt)
       have hk0:((k:Int) == 0)=false:=beq_eq_false_iff_ne.2 (by have:=hd.2.1;omega)
       have hk00:(0:Int)≤(k:Int):=by omega
       have HDD:=Lib.hid hd;clear hd
       obtain ⟨x0,x1,x2,x3,x4⟩:=HST.out.ref.facts
       clear x1 x2 x3 x4
       have z0:=(HST.out.ref.frozen 0)
       go_wp2_with fail
       go_meet
       case rel=>exact ⟨by rw [HDD.out.2.2.1];rfl,by rw [HDD.out.2.2.2.1];exact RSt.set 0 HST.out (.string (s.extract 0 k)) _ 0 0 false false rfl⟩
   · have hki:¬ (k:Int)<(s.size:Int):=by omega
     have hd:=HD1.out.resolve_right (by omega)
     have HDD:=Lib.hid hd;clear hd
     go_wp2_with fail
     go_meet
     case rel=>exact ⟨by rw [HDD.out.2.1];rfl,by rw [HDD.out.2.2];exact HST.out⟩
 case rest =>
  obtain ⟨rfl,hst2⟩:=hcut
  clear HST
  have HST:=Lib.hid hst2;clear hst2
  go_upto_region 11 with (fail)
  go_cut [40] (fun t wx=>t = .bool d1.mark∧RSt w wx d1.sh 0 0 false false)
  case first =>
   by_cases hlt:d1.k<s.size
   · have hki:(d1.k:Int)<(s.size:Int):=by omega
     obtain ⟨a,ha⟩:∃ a:Int,(s[d1.k].toNat:Int)=a:=⟨_,rfl⟩
     by_cases h36:a=36
     · have hj:(a == 36)=true:=beq_iff_eq.2 h36
       have hmk:d1.mark=true:=mark_ts d1 s HS1.out hlt (by rw [ha,h36])
       have HMK:=Lib.hid hmk;clear hmk h36
       go_wp2_with fail
       go_meet
       case rel=>exact ⟨by rw [HMK.out],HST.out⟩
     · have hj:(a == 36)=false:=beq_eq_false_iff_ne.2 h36
       have hmk:d1.mark=false:=mark_fs d1 s HS1.out hlt (by rw [ha];exact h36)
       have HMK:=Lib.hid hmk;clear hmk h36
       go_wp2_with fail
       go_meet
       case rel=>exact ⟨by rw [HMK.out],HST.out⟩
   · have hki:¬ (d1.k:Int)<(s.size:Int):=by omega
     have hmk:d1.mark=false:=mark_es d1 s HS1.out (by omega)
     have HMK:=Lib.hid hmk;clear hmk
     go_wp2_with fail
     go_meet
     case rel=>exact ⟨by rw [HMK.out],HST.out⟩
  case rest =>
   obtain ⟨rfl,hst2⟩:=hcut
   clear HST
   have HST:=Lib.hid hst2;clear hst2
   go_upto_if 40 with (fail)
   go_cut [5] (fun k wx=>k = .int .i64 (d1.absColF.k:Int)∧RSt w wx d1.sh 0 0 d1.mark false)
   case first =>
    obtain ⟨x0,x1,x2,x3,x4⟩:=HST.out.ref.facts
    have z0:=(HST.out.ref.frozen 0);have z1:=(HST.out.ref.frozen 1);have z2:=(HST.out.ref.frozen 2);have z3:=(HST.out.ref.frozen 3);have z4:=(HST.out.ref.frozen 4)
    cases hm:d1.mark with
    | true =>
      have HMK:=Lib.hid hm;clear hm
      go_wp2_with fail
      go_meet
      case rel=>exact ⟨by rw [show d1.absColF.k=d1.k+1 from by rw [absColF_k,HMK.out];rfl];rfl,(by first | (rw [HMK.out];exact RSt.set 3 HST.out (.bool true) d1.sh 0 0 true false rfl) | exact RSt.set 3 HST.out (.bool true) d1.sh 0 0 true false rfl)⟩
    | false =>
      have HMK:=Lib.hid hm;clear hm
      go_wp2_with fail
      go_meet
      case rel=>exact ⟨by rw [show d1.absColF.k=d1.k from by rw [absColF_k,HMK.out];rfl],(by first | (rw [HMK.out];exact HST.out) | exact HST.out)⟩
   case rest =>
    obtain ⟨rfl,hst2⟩:=hcut
    clear HST
    have HST:=Lib.hid hst2;clear hst2
    obtain ⟨d2,hd2⟩:∃ d:Rd,d1.absColF=d:=⟨_,rfl⟩
    rw [hd2]
    have hs2:d2.s=s:=by rw [← hd2];exact HS1.out
    have hk2:d2.k≤s.size:=by rw [← hd2,absColF_k, ← HS1.out];exact mark_le d1 (by rw [HS1.out];exact hk1)
    obtain ⟨d3,hd3⟩:∃ d:Rd,d2.colF=d:=⟨_,rfl⟩
    have hk3:d3.k=d2.k+(d2.rest.takeWhile isCap).length:=by rw [← hd3];rfl
    have hle3:d3.k≤s.size:=by rw [hk3, ← hs2];exact span_le isCap d2 (by rw [hs2];exact hk2)
    have hs3:d3.s=s:=by rw [← hd3];exact hs2
    have hc3:readColL (d2.rest.takeWhile isCap)=d3.c:=by rw [← hd3];rfl
    obtain ⟨ok3,hok3⟩:∃ b:Bool,isCol (d2.rest.takeWhile isCap)=b:=⟨_,rfl⟩
    have hspan:sb (s.extract d2.k d3.k)=d2.rest.takeWhile isCap:=by
     rw [hk3,ext_sb, ← hs2];exact span_take isCap d2
    have hesz:(s.extract d2.k d3.k).size≤1000000:=by rw [ByteArray.size_extract];omega
    have hkp:(d2.k:Int)≤(d3.k:Int):=by omega
    have hps:(d3.k:Int)≤(s.size:Int):=by omega
    have HD2:=Lib.hid hd2;clear hd2
    have HS2:=Lib.hid hs2;clear hs2
    have HD3:=Lib.hid hd3;clear hd3
    have HS3:=Lib.hid hs3;clear hs3
    have HC3:=Lib.hid hc3;clear hc3
    have HK3:=Lib.hid hk3;clear hk3
    have HOK3:=Lib.hid hok3;clear hok3
    have HSPAN:=Lib.hid hspan;clear hspan
    go_upto_block 2 with (fail)
    go_cut [7] (fun t wx=>t = .int .i64 (d3.k:Int)∧RSt w wx d1.sh 0 0 d1.mark false)
    case first =>
     go_wp2_with fail
     go_loopw [7] (fun t wr=>∃ m:Nat,d2.k+m≤s.size∧t = .int .i64 ((d2.k+m:Nat):Int)∧Hid (∀ x∈d2.rest.take m,isCap x=true)∧Hid (RSt w wr d1.sh 0 0 d1.mark false))
      (fun t _=>s.size - (intOf t).toNat)
     case atStart=>exact ⟨0,by omega,rfl,Lib.hid (by simp),HST⟩
     case round =>
      clear HST
      obtain ⟨m,hm,rfl,HALL,HST⟩:=hrel
      obtain ⟨p,hp⟩:∃ p:Nat,d2.k+m=p:=⟨_,rfl⟩
      rw [hp]
      have HP:=Lib.hid hp
      have hp2:p≤s.size:=by omega
      clear hp
      by_cases hlt:p<s.size
      · have hki:(p:Int)<(s.size:Int):=by omega
        obtain ⟨a,ha⟩:∃ a:Int,(s[p].toNat:Int)=a:=⟨_,rfl⟩
        have ha1:0≤a∧a≤255:=by have:=s[p].toNat_lt;omega
        have hnx:=take_nx d2 s m p a HS2.out HP.out hlt ha
        have HNX:=Lib.hid hnx;clear hnx
        by_cases hc:isCap a=true
        · go_wp2_with (go_at_call 150;((with_reducible refine (refCapital_any _ ?_ ?_ _).mono ?_);(first | omega | skip);(first | omega | skip);rintro e w' ⟨rfl,rfl⟩))
          go_roundw
          case rel=>exact ⟨m+1,by have:=HP.out;omega,by rw [show d2.k+(m+1)=p+1 from by have:=HP.out;omega];rfl,Lib.hid (by rw [HNX.out.1];exact all_snoc HALL.out hc),HST⟩
          case measure=>simp [intOf];omega
        · have hc':isCap a=false:=by simpa using hc
          clear hc
          have hsp:=span_stop isCap d2.rest m HALL.out (fun x hx=>by rw [HNX.out.2] at hx;injection hx with hx;rw [← hx];exact hc')
          have hpk:p=d3.k:=by rw [HK3.out,hsp,List.length_take,length_rest,HS2.out];have:=HP.out;omega
          have HPK:=Lib.hid hpk;clear hpk hsp
          go_wp2_with (go_at_call 150;((with_reducible refine (refCapital_any _ ?_ ?_ _).mono ?_);(first | omega | skip);(first | omega | skip);rintro e w' ⟨rfl,rfl⟩))
          go_meet
          case rel=>exact ⟨by rw [HPK.out],HST.out⟩
      · have hki:¬ (p:Int)<(s.size:Int):=by omega
        have hsp:=span_stop isCap d2.rest m HALL.out (fun x hx=>by rw [rd_past d2 m (by rw [HS2.out];have:=HP.out;omega)] at hx;cases hx)
        have hpk:p=d3.k:=by rw [HK3.out,hsp,List.length_take,length_rest,HS2.out];have:=HP.out;omega
        have HPK:=Lib.hid hpk;clear hpk hsp
        go_wp2_with fail
        go_meet
        case rel=>exact ⟨by rw [HPK.out],HST.out⟩
    case rest =>
     obtain ⟨rfl,hst2⟩:=hcut
     clear HST
     have HST:=Lib.hid hst2;clear hst2
     go_upto_region 18 with (first | (go_at_call 151;((with_reducible refine (refReadCol_any _ _ ?_).mono ?_);(first | omega | skip);rintro e w1 ⟨rfl,n,rfl⟩;rw [HSPAN.out,HC3.out,HOK3.out];have HST:=Lib.hid (HST.out.drewN n))))
     clear hkp hps hesz
     go_upto_region 18 with (fail)
     go_cut [74] (fun t wx=>t = .bool d3.mark∧RSt w wx d1.sh 0 0 d1.mark false)
     case first =>
      by_cases hlt:d3.k<s.size
      · have hki:(d3.k:Int)<(s.size:Int):=by omega
        obtain ⟨a,ha⟩:∃ a:Int,(s[d3.k].toNat:Int)=a:=⟨_,rfl⟩
        by_cases h36:a=36
        · have hj:(a == 36)=true:=beq_iff_eq.2 h36
          have hmk:d3.mark=true:=mark_ts d3 s HS3.out hlt (by rw [ha,h36])
          have HMK:=Lib.hid hmk;clear hmk h36
          go_wp2_with fail
          go_meet
          case rel=>exact ⟨by rw [HMK.out],HST.out⟩
        · have hj:(a == 36)=false:=beq_eq_false_iff_ne.2 h36
          have hmk:d3.mark=false:=mark_fs d3 s HS3.out hlt (by rw [ha];exact h36)
          have HMK:=Lib.hid hmk;clear hmk h36
          go_wp2_with fail
          go_meet
          case rel=>exact ⟨by rw [HMK.out],HST.out⟩
      · have hki:¬ (d3.k:Int)<(s.size:Int):=by omega
        have hmk:d3.mark=false:=mark_es d3 s HS3.out (by omega)
        have HMK:=Lib.hid hmk;clear hmk
        go_wp2_with fail
        go_meet
        case rel=>exact ⟨by rw [HMK.out],HST.out⟩
     case rest =>
      obtain ⟨rfl,hst2⟩:=hcut
      clear HST
      have HST:=Lib.hid hst2;clear hst2
      go_upto_if 74 with (fail)
      go_cut [7] (fun k wx=>k = .int .i64 (d3.absRowF.k:Int)∧RSt w wx d1.sh 0 0 d1.mark d3.mark)
      case first =>
       obtain ⟨x0,x1,x2,x3,x4⟩:=HST.out.ref.facts
       have z0:=(HST.out.ref.frozen 0);have z1:=(HST.out.ref.frozen 1);have z2:=(HST.out.ref.frozen 2);have z3:=(HST.out.ref.frozen 3);have z4:=(HST.out.ref.frozen 4)
       cases hm:d3.mark with
       | true =>
         have HMK:=Lib.hid hm;clear hm
         go_wp2_with fail
         go_meet
         case rel=>exact ⟨by rw [show d3.absRowF.k=d3.k+1 from by rw [absRowF_k,HMK.out];rfl];rfl,(by first | (rw [HMK.out];exact RSt.set 4 HST.out (.bool true) d1.sh 0 0 d1.mark true rfl) | exact RSt.set 4 HST.out (.bool true) d1.sh 0 0 d1.mark true rfl)⟩
       | false =>
         have HMK:=Lib.hid hm;clear hm
         go_wp2_with fail
         go_meet
         case rel=>exact ⟨by rw [show d3.absRowF.k=d3.k from by rw [absRowF_k,HMK.out];rfl],(by first | (rw [HMK.out];exact HST.out) | exact HST.out)⟩
      case rest =>
       obtain ⟨rfl,hst2⟩:=hcut
       clear HST
       have HST:=Lib.hid hst2;clear hst2
       obtain ⟨d4,hd4⟩:∃ d:Rd,d3.absRowF=d:=⟨_,rfl⟩
       rw [hd4]
       have hs4:d4.s=s:=by rw [← hd4];exact HS3.out
       have hk4:d4.k≤s.size:=by rw [← hd4,absRowF_k, ← HS3.out];exact mark_le d3 (by rw [HS3.out];exact hle3)
       have hat4:d1.at4=d4:=by unfold Rd.at4;rw [HD2.out,HD3.out,hd4]
       have hcand:∀ d,readS s=some d→ok3=true∧(∀ x∈d4.rest,isNum x=true)∧d4.rest.length≤3∧d.sh=d1.sh∧d.c=d3.c∧d.ac=d1.mark∧d.ar=d3.mark∧d.r=valL d4.rest - 1:=by
        intro d hd
        obtain ⟨g1,g2,g3,g4,g5,g6,g7,g8⟩:=cand_of s d1 d HSHT.out HS1.out hd
        rw [hat4] at g2 g3 g8
        rw [HD2.out,HOK3.out] at g1
        have g5':d.c=d1.absColF.colF.c:=g5
        have g7':d.ar=d1.absColF.colF.mark:=g7
        rw [HD2.out,HD3.out] at g5' g7'
        exact ⟨g1,g2,g3,g4,g5',g6,g7',g8⟩
       have HS4:=Lib.hid hs4;clear hs4
       have HCAND:=Lib.hid hcand;clear hcand hat4 hd4
       obtain ⟨v4,hv4⟩:∃ v,valL (d4.rest.take 4)=v:=⟨_,rfl⟩
       by_cases hall:∀ x∈d4.rest.take 4,isNum x=true
       · have hvb:=val_bd4 (d4.rest.take 4) hall (by rw [List.length_take];omega)
         rw [hv4] at hvb
         have HALL:=Lib.hid hall;clear hall
         have HV4:=Lib.hid hv4;clear hv4
         go_upto_block 4 with (fail)
         go_cut [10] (fun rr wx=>rr = .int .i64 v4∧RSt w wx d1.sh 0 0 d1.mark d3.mark)
         case first =>
          go_wp2_with fail
          go_loopw [10,11] (fun rr t wr=>∃ (j:Nat) (v:Int),j≤4∧d4.k+j≤s.size∧rr = .int .i64 v∧t = .int .i64 ((d4.k+j:Nat):Int)∧Hid (valL (d4.rest.take j)=v)∧Hid (RSt w wr d1.sh 0 0 d1.mark d3.mark))
           (fun _ t _=>s.size - (intOf t).toNat)
          case atStart=>exact ⟨0,0,by omega,by omega,rfl,rfl,Lib.hid rfl,HST⟩
          case round =>
           clear HST
           obtain ⟨j,v,hj4,hjk,rfl,rfl,HV,HST⟩:=hrel
           obtain ⟨p,hp⟩:∃ p:Nat,d4.k+j=p:=⟨_,rfl⟩
           rw [hp]
           have hp2:p≤s.size:=by omega
           by_cases hlt:p<s.size∧j<4
           · obtain ⟨hlt,hj⟩:=hlt
             have hki:(p:Int)<(s.size:Int):=by omega
             have hji:(p:Int)<(d4.k:Int)+4:=by omega
             obtain ⟨a,ha⟩:∃ a:Int,(s[p].toNat:Int)=a:=⟨_,rfl⟩
             have ha1:0≤a∧a≤255:=by have:=s[p].toNat_lt;omega
             have hnx:=take_nx d4 s j p a HS4.out hp hlt ha
             have hc:isNum a=true:=HALL.out a (by
              have h1:a∈d4.rest.take (j+1):=by rw [hnx.1];simp
              exact List.mem_of_mem_take (i:=j+1) (by rw [List.take_take];rw [Nat.min_eq_left (by omega)];exact h1))
             have hab:=num_bd hc
             have hvb2:=val_bd4 (d4.rest.take j) (fun x hx=>HALL.out x (List.mem_of_mem_take (i:=j) (by rw [List.take_take,Nat.min_eq_left (by omega)];exact hx))) (by rw [List.length_take];omega)
             rw [HV.out] at hvb2
             have HNX:=Lib.hid hnx;clear hnx
             have HP:=Lib.hid hp;clear hp
             go_wp2_with (go_at_call 152;((with_reducible refine (refDigit_any _ ?_ ?_ _).mono ?_);(first | omega | skip);(first | omega | skip);rintro e w' ⟨rfl,rfl⟩))
             go_roundw
             case rel=>exact ⟨j+1,10*v+(a - 48),by omega,by have:=HP.out;omega,rfl,by rw [show d4.k+(j+1)=p+1 from by have:=HP.out;omega];rfl,Lib.hid (by rw [HNX.out.1,valL_snoc,HV.out]),HST⟩
             case measure=>simp [intOf];omega
           · have hve:v4=v:=by
              rw [← HV.out, ← HV4.out]
              by_cases hj:j=4
              · rw [hj]
              · have hl:d4.rest.length≤j:=by rw [length_rest,HS4.out];omega
                rw [List.take_of_length_le hl,List.take_of_length_le (by omega)]
             have HVE:=Lib.hid hve;clear hve
             by_cases hps:p<s.size
             · have hki:(p:Int)<(s.size:Int):=by omega
               have hji:¬ (p:Int)<(d4.k:Int)+4:=by omega
               have HP:=Lib.hid hp;clear hp hlt
               go_wp2_with fail
               go_meet
               case rel=>exact ⟨by rw [HVE.out],HST.out⟩
             · have hki:¬ (p:Int)<(s.size:Int):=by omega
               have HP:=Lib.hid hp;clear hp hlt
               go_wp2_with fail
               go_meet
               case rel=>exact ⟨by rw [HVE.out],HST.out⟩
         case rest =>
          obtain ⟨rfl,hst2⟩:=hcut
          clear HST
          have HST:=Lib.hid hst2;clear hst2
          have hyes:ok3=true→mayL (sb d1.sh) d3.c (v4 - 1)=true→strOfNums (textL (sb d1.sh) d3.c (v4 - 1) d1.mark d3.mark)=s→Says (sb s) (.returned (.tuple #[.agg #[.string d1.sh,.int .i64 d3.c,.int .i64 (v4 - 1),.bool d1.mark,.bool d3.mark],.bool true])):=by
           intro _ h2 h3
           refine .inl ⟨d1.sh,d3.c,v4 - 1,d1.mark,d3.mark, ?_,h2, ?_,rfl⟩
           · rcases mayL_sheet h2 with h | h
             · rw [← length_sb,h];exact Nat.zero_le _
             · rw [← length_sb];exact (nameL_size h).2
           · rw [← sb_str _ (bytes_textL d1.sh d3.c (v4 - 1) d1.mark d3.mark),h3]
          have hno:¬ (ok3=true∧mayL (sb d1.sh) d3.c (v4 - 1)=true∧strOfNums (textL (sb d1.sh) d3.c (v4 - 1) d1.mark d3.mark)=s)→NoRef (sb s):=by
           intro h
           apply read_none
           cases hq:readS s with
           | none=>rfl
           | some d =>
             exfalso
             obtain ⟨g1,g2,g3,g4,g5,g6,g7,g8⟩:=HCAND.out d hq
             obtain ⟨r1,r2,r3⟩:=read_some s d hq
             rw [List.take_of_length_le (by omega)] at HV4
             rw [HV4.out] at g8
             rw [g4,g5,g8] at r2
             rw [g4,g5,g6,g7,g8] at r3
             exact h ⟨g1,r2,by rw [r3,str_sb]⟩
          have HYES:=Lib.hid hyes;clear hyes
          have HNO:=Lib.hid hno;clear hno
          obtain ⟨tt,htt⟩:∃ t:ByteArray,strOfNums (textL (sb d1.sh) d3.c (v4 - 1) d1.mark d3.mark)=t:=⟨_,rfl⟩
          obtain ⟨my,hmy⟩:∃ b:Bool,mayL (sb d1.sh) d3.c (v4 - 1)=b:=⟨_,rfl⟩
          rw [htt,hmy] at HYES HNO
          have HTT:=Lib.hid htt;clear htt
          have HMY:=Lib.hid hmy;clear hmy
          go_upto_region 28 with (fail)
          obtain ⟨x0,x1,x2,x3,x4⟩:=HST.out.ref.facts
          have z0:=(HST.out.ref.frozen 0);have z1:=(HST.out.ref.frozen 1);have z2:=(HST.out.ref.frozen 2);have z3:=(HST.out.ref.frozen 3);have z4:=(HST.out.ref.frozen 4)
          go_upto_region 30 with (fail)
          clear x0 x1 x2 x3 x4 z0 z1 z2 z3 z4
          have hst3:=RSt.set 2 (RSt.set 1 HST.out (.int .i64 d3.c) d1.sh d3.c 0 d1.mark d3.mark rfl) (.int .i64 (v4 - 1)) d1.sh d3.c (v4 - 1) d1.mark d3.mark rfl
          clear HST
          generalize (wc.setCell ⟨w.heap.size+1,1,none⟩ (.int .i64 d3.c)).setCell ⟨w.heap.size+1,2,none⟩ (.int .i64 (v4 - 1))=w3 at hst3 ⊢
          have HST:=Lib.hid hst3;clear hst3
          obtain ⟨x0,x1,x2,x3,x4⟩:=HST.out.ref.facts
          have z0:=(HST.out.ref.frozen 0);have z1:=(HST.out.ref.frozen 1);have z2:=(HST.out.ref.frozen 2);have z3:=(HST.out.ref.frozen 3);have z4:=(HST.out.ref.frozen 4)
          cases ok3 with
          | false =>
            have hnr:=HNO.out (by rintro ⟨h,_⟩;cases h)
            have HNR:=Lib.hid hnr;clear hnr
            go_upto_region 31 with (fail)
            repeat (first | go_says ((with_reducible refine wpList_store_ref (op:=⟨none,.store 59 (.tmp 2) (.tmp 123),_,_,_,_⟩) rfl (.tmp 2) (.tmp 123) rfl w.heap.size _ _ _ _ _ ⟨#[]⟩ 0 0 false false ?_ ?_ HST.out.res ?_);rfl;rfl;intro w9 h9 g9;have HR9:=Lib.hid h9;clear h9;have HG9:=Lib.hid g9;clear g9) | go_values | go_skip | go_guarded | go_step | go_upon)
            (try simp only [Exit.inBlock,Exit.then])
            refine bodyPost_ret (out_ref HR9.out _ _ false 2 3 res_ReadRef rfl rfl) rfl ⟨.inr ⟨HNR.out,rfl⟩,below_of_grownBy HST.out.below HG9.out HST.out.below.size (Nat.le_refl _)⟩
          | true =>
            cases my with
            | false =>
              have hnr:=HNO.out (by rintro ⟨_,h,_⟩;cases h)
              have HNR:=Lib.hid hnr;clear hnr
              go_upto_region 31 with (first | (go_at_call 113;((with_reducible refine (refMay_any _ _ _ _ _ _ ?_).mono ?_);(first | omega | skip);rintro e w1 ⟨rfl,h1⟩;rw [HMY.out];have HST:=Lib.hid (HST.out.next h1);clear h1;clear x0 x1 x2 x3 x4 z0 z1 z2 z3 z4;obtain ⟨x0,x1,x2,x3,x4⟩:=HST.out.ref.facts;have z0:=(HST.out.ref.frozen 0);have z1:=(HST.out.ref.frozen 1);have z2:=(HST.out.ref.frozen 2);have z3:=(HST.out.ref.frozen 3);have z4:=(HST.out.ref.frozen 4))))
              repeat (first | go_says ((with_reducible refine wpList_store_ref (op:=⟨none,.store 59 (.tmp 2) (.tmp 123),_,_,_,_⟩) rfl (.tmp 2) (.tmp 123) rfl w.heap.size _ _ _ _ _ ⟨#[]⟩ 0 0 false false ?_ ?_ HST.out.res ?_);rfl;rfl;intro w9 h9 g9;have HR9:=Lib.hid h9;clear h9;have HG9:=Lib.hid g9;clear g9) | go_values | go_skip | go_guarded | go_step | go_upon)
              (try simp only [Exit.inBlock,Exit.then])
              refine bodyPost_ret (out_ref HR9.out _ _ false 2 3 res_ReadRef rfl rfl) rfl ⟨.inr ⟨HNR.out,rfl⟩,below_of_grownBy HST.out.below HG9.out HST.out.below.size (Nat.le_refl _)⟩
            | true =>
              by_cases hts:tt=s
              · have hys:=HYES.out rfl rfl hts
                have HYS:=Lib.hid hys;clear hys
                have htb:(s.toList == s.toList)=true:=beq_self_eq_true _
                have hTS:=Lib.hid hts;clear hts
                go_upto_region 32 with (first | (go_at_call 113;((with_reducible refine (refMay_any _ _ _ _ _ _ ?_).mono ?_);(first | omega | skip);rintro e w1 ⟨rfl,h1⟩;rw [HMY.out];have HST:=Lib.hid (HST.out.next h1);clear h1;clear x0 x1 x2 x3 x4 z0 z1 z2 z3 z4;obtain ⟨x0,x1,x2,x3,x4⟩:=HST.out.ref.facts;have z0:=(HST.out.ref.frozen 0);have z1:=(HST.out.ref.frozen 1);have z2:=(HST.out.ref.frozen 2);have z3:=(HST.out.ref.frozen 3);have z4:=(HST.out.ref.frozen 4))) | (go_at_call 67;((with_reducible refine (refText_any _ _ _ _ _ _ ?_).mono ?_);(first | omega | skip);rintro e w1 ⟨rfl,h1⟩;rw [HTT.out];(try rw [hTS.out]);have HST:=Lib.hid (HST.out.next h1);clear h1;clear x0 x1 x2 x3 x4 z0 z1 z2 z3 z4;obtain ⟨x0,x1,x2,x3,x4⟩:=HST.out.ref.facts;have z0:=(HST.out.ref.frozen 0);have z1:=(HST.out.ref.frozen 1);have z2:=(HST.out.ref.frozen 2);have z3:=(HST.out.ref.frozen 3);have z4:=(HST.out.ref.frozen 4))))
                repeat (first | go_says ((with_reducible refine wpList_store_ref (op:=⟨none,.store 59 (.tmp 2) (.tmp 124),_,_,_,_⟩) rfl (.tmp 2) (.tmp 124) rfl w.heap.size _ _ _ _ _ d1.sh d3.c (v4 - 1) d1.mark d3.mark ?_ ?_ HST.out.res ?_);rfl;rfl;intro w9 h9 g9;have HR9:=Lib.hid h9;clear h9;have HG9:=Lib.hid g9;clear g9) | go_values | go_skip | go_guarded | go_step | go_upon)
                (try simp only [Exit.inBlock,Exit.then])
                exact bodyPost_ret (out_ref HR9.out _ _ true 2 3 res_ReadRef rfl rfl) rfl ⟨HYS.out,below_of_grownBy HST.out.below HG9.out HST.out.below.size (Nat.le_refl _)⟩
              · have hnr:=HNO.out (by rintro ⟨_,_,h⟩;exact hts h)
                have HNR:=Lib.hid hnr;clear hnr
                have htn:=text_ne tt s hts
                have htb:(tt.toList == s.toList)=false:=beq_eq_false_iff_ne.2 htn
                clear hts
                go_upto_region 31 with (first | (go_at_call 113;((with_reducible refine (refMay_any _ _ _ _ _ _ ?_).mono ?_);(first | omega | skip);rintro e w1 ⟨rfl,h1⟩;rw [HMY.out];have HST:=Lib.hid (HST.out.next h1);clear h1;clear x0 x1 x2 x3 x4 z0 z1 z2 z3 z4;obtain ⟨x0,x1,x2,x3,x4⟩:=HST.out.ref.facts;have z0:=(HST.out.ref.frozen 0);have z1:=(HST.out.ref.frozen 1);have z2:=(HST.out.ref.frozen 2);have z3:=(HST.out.ref.frozen 3);have z4:=(HST.out.ref.frozen 4))) | (go_at_call 67;((with_reducible refine (refText_any _ _ _ _ _ _ ?_).mono ?_);(first | omega | skip);rintro e w1 ⟨rfl,h1⟩;rw [HTT.out];(try rw [hTS.out]);have HST:=Lib.hid (HST.out.next h1);clear h1;clear x0 x1 x2 x3 x4 z0 z1 z2 z3 z4;obtain ⟨x0,x1,x2,x3,x4⟩:=HST.out.ref.facts;have z0:=(HST.out.ref.frozen 0);have z1:=(HST.out.ref.frozen 1);have z2:=(HST.out.ref.frozen 2);have z3:=(HST.out.ref.frozen 3);have z4:=(HST.out.ref.frozen 4))))
                repeat (first | go_says ((with_reducible refine wpList_store_ref (op:=⟨none,.store 59 (.tmp 2) (.tmp 123),_,_,_,_⟩) rfl (.tmp 2) (.tmp 123) rfl w.heap.size _ _ _ _ _ ⟨#[]⟩ 0 0 false false ?_ ?_ HST.out.res ?_);rfl;rfl;intro w9 h9 g9;have HR9:=Lib.hid h9;clear h9;have HG9:=Lib.hid g9;clear g9) | go_values | go_skip | go_guarded | go_step | go_upon)
                (try simp only [Exit.inBlock,Exit.then])
                refine bodyPost_ret (out_ref HR9.out _ _ false 2 3 res_ReadRef rfl rfl) rfl ⟨.inr ⟨HNR.out,rfl⟩,below_of_grownBy HST.out.below HG9.out HST.out.below.size (Nat.le_refl _)⟩
       · have hall2:=hall
         clear hall
         have HALL:=Lib.hid hall2;clear hall2
         go_wp2_with fail
         go_loopw [10,11] (fun rr t wr=>∃ (j:Nat) (v:Int),j≤4∧d4.k+j≤s.size∧rr = .int .i64 v∧t = .int .i64 ((d4.k+j:Nat):Int)∧Hid (valL (d4.rest.take j)=v∧(∀ x∈d4.rest.take j,isNum x=true))∧Hid (RSt w wr d1.sh 0 0 d1.mark d3.mark))
          (fun _ t _=>s.size - (intOf t).toNat)
         case atStart=>exact ⟨0,0,by omega,by omega,rfl,rfl,Lib.hid ⟨rfl,by simp⟩,HST⟩
         case round =>
          clear HST
          obtain ⟨j,v,hj4,hjk,rfl,rfl,HV,HST⟩:=hrel
          obtain ⟨p,hp⟩:∃ p:Nat,d4.k+j=p:=⟨_,rfl⟩
          rw [hp]
          have hp2:p≤s.size:=by omega
          have hj:j<4∧p<s.size:=by
           refine Decidable.byContradiction fun hn=>HALL.out ?_
           have he:d4.rest.take 4=d4.rest.take j:=by
            by_cases hj:j=4
            · rw [hj]
            · have hl:d4.rest.length≤j:=by rw [length_rest,HS4.out];omega
              rw [List.take_of_length_le hl,List.take_of_length_le (by omega)]
           rw [he];exact HV.out.2
          obtain ⟨hj,hlt⟩:=hj
          have hvb:=val_bd4 (d4.rest.take j) HV.out.2 (by rw [List.length_take];omega)
          rw [HV.out.1] at hvb
          have hki:(p:Int)<(s.size:Int):=by omega
          have hji:(p:Int)<(d4.k:Int)+4:=by omega
          obtain ⟨a,ha⟩:∃ a:Int,(s[p].toNat:Int)=a:=⟨_,rfl⟩
          have ha1:0≤a∧a≤255:=by have:=s[p].toNat_lt;omega
          have hnx:=take_nx d4 s j p a HS4.out hp hlt ha
          have HNX:=Lib.hid hnx;clear hnx
          have HP:=Lib.hid hp;clear hp
          by_cases hc:isNum a=true
          · have hab:=num_bd hc
            go_wp2_with (go_at_call 152;((with_reducible refine (refDigit_any _ ?_ ?_ _).mono ?_);(first | omega | skip);(first | omega | skip);rintro e w' ⟨rfl,rfl⟩))
            go_roundw
            case rel=>exact ⟨j+1,10*v+(a - 48),by omega,by have:=HP.out;omega,rfl,by rw [show d4.k+(j+1)=p+1 from by have:=HP.out;omega];rfl,Lib.hid ⟨by rw [HNX.out.1,valL_snoc,HV.out.1],by rw [HNX.out.1];exact all_snoc HV.out.2 hc⟩,HST⟩
            case measure=>simp [intOf];omega
          · have hc':isNum a=false:=by simpa using hc
            clear hc
            have hno:readS s=none:=by
             cases hq:readS s with
             | none=>rfl
             | some d =>
               have h1:=(HCAND.out d hq).2.1 a (List.mem_of_getElem? HNX.out.2)
               rw [hc'] at h1;cases h1
            have hnr:=read_none s hno
            have HNR:=Lib.hid hnr;clear hnr hno
            go_upto_region 26 with (first | (go_at_call 152;((with_reducible refine (refDigit_any _ ?_ ?_ _).mono ?_);(first | omega | skip);(first | omega | skip);rintro e w' ⟨rfl,rfl⟩)))
            repeat (first | go_says ((with_reducible refine wpList_store_ref (op:=⟨none,.store 59 (.tmp 2) (.tmp 96),_,_,_,_⟩) rfl (.tmp 2) (.tmp 96) rfl w.heap.size _ _ _ _ _ ⟨#[]⟩ 0 0 false false ?_ ?_ HST.out.res ?_);rfl;rfl;intro w9 h9 g9;have HR9:=Lib.hid h9;clear h9;have HG9:=Lib.hid g9;clear g9) | go_values | go_skip | go_guarded | go_step | go_upon)
            (try simp only [Exit.inBlock,Exit.then])
            refine bodyPost_ret (out_ref HR9.out _ _ false 2 3 res_ReadRef rfl rfl) rfl ⟨.inr ⟨HNR.out,rfl⟩,below_of_grownBy HST.out.below HG9.out HST.out.below.size (Nat.le_refl _)⟩
theorem sheetP_bytes (s:ByteArray) (k:Nat) (h:k<s.size) (hk:k<(Rd.start s).sheetP.length):¬ ((s[k].toNat:Nat):Int)=33:=by
 intro h33
 have h1:=take_all ne33 (sb s) 33 (by
  have h2:=take_split ne33 (sb s)
  have h3:((sb s).takeWhile ne33)[k]? = (sb s)[k]? := by
   conv=>rhs;rw [← h2]
   rw [List.getElem?_append_left (show k<((sb s).takeWhile ne33).length from hk)]
  rw [sb_at s k h,h33] at h3
  exact List.mem_of_getElem? h3)
 exact absurd h1 (by decide)
theorem sheetP_mark (s:ByteArray) (m:Nat) (hm:(Rd.start s).sheetP.length=m) (h:m<s.size):((s[m].toNat:Nat):Int)=33:=by
 have h1:=take_head ne33 (sb s) ((s[m].toNat:Nat):Int) (by
  have h2:((sb s).takeWhile ne33).length=m:=hm
  rw [h2,List.head?_drop,sb_at s m h])
 unfold ne33 at h1
 simpa using h1
theorem sheetP_cut (s:ByteArray):s.extract 0 (Rd.start s).sheetP.length=strOfNums (Rd.start s).sheetP:=by
 have h:=sheetP_take (Rd.start s)
 have h2:(sb s).take (Rd.start s).sheetP.length=(Rd.start s).sheetP:=h
 rw [← str_sb (s.extract 0 (Rd.start s).sheetP.length)]
 congr 1
 have e:=ext_sb s 0 (Rd.start s).sheetP.length
 rw [Nat.zero_add,List.drop_zero,h2] at e
 exact e
set_option maxRecDepth 100000 in
set_option maxHeartbeats 400000 in
theorem refRead_zero (s:ByteArray) (w:World) (_hs:s.size≤1000000) (hp:0<s.size) (h0:(Rd.start s).sheetP.length=0) :
 Calls Tryz.prog 111 #[.string s] w fun e w'=>Says (sb s) e∧Below w.heap.size w w':=by
 have hst:RSt w ((w.alloc (.cells #[.string ⟨#[]⟩,.int .i64 0,.int .i64 0,.bool false,.bool false] 59)).alloc (.cells #[.string ⟨#[]⟩,.int .i64 0,.int .i64 0,.bool false,.bool false] 59)) ⟨#[]⟩ 0 0 false false:=by
  have h0:=RefAt.new w ⟨#[]⟩ 0 0 false false
  have hsz:(w.alloc (.cells #[.string ⟨#[]⟩,.int .i64 0,.int .i64 0,.bool false,.bool false] 59)).heap.size=w.heap.size+1:=by simp
  have h1:=RefAt.new (w.alloc (.cells #[.string ⟨#[]⟩,.int .i64 0,.int .i64 0,.bool false,.bool false] 59)) ⟨#[]⟩ 0 0 false false
  rw [hsz] at h1
  exact ⟨h0.below ((Below.refl _ _).alloc (Nat.le_refl _) _) h0.lt,h1,((Below.refl _ _).alloc (Nat.le_refl _) _).alloc (by rw [hsz];omega) _⟩
 have hnr:NoRef (sb s):=by
  apply read_none
  have hsh:(Rd.start s).sheet=none:=by
   unfold Rd.sheet
   rw [if_neg (show ¬ (Rd.start s).sheetP.length=(Rd.start s).s.size by rw [h0];show ¬ 0=s.size;omega)]
   rw [List.eq_nil_of_length_eq_zero h0];rfl
  unfold readS;rw [hsh];rfl
 have hb:=sheetP_mark s 0 h0 hp
 obtain ⟨a,ha⟩:∃ a:Int,(s[0].toNat:Int)=a:=⟨_,rfl⟩
 have hb2:(a == 33)=true:=beq_iff_eq.2 (by rw [← ha];exact hb)
 have hpi:(0:Int)<(s.size:Int):=by omega
 have HST:=Lib.hid hst;clear hst
 have HNR:=Lib.hid hnr;clear hnr hb h0
 go_enter Tryz.func111,Tryz.ntmps111
 go_wp2_with fail
 go_loopw [3,5,6] (fun rk at_ i wr=>rk = .bool false∧at_ = .int .i64 0∧i = .int .i64 0∧Hid (RSt w wr ⟨#[]⟩ 0 0 false false))
  (fun _ _ i _=>s.size - (intOf i).toNat)
 case atStart=>exact ⟨rfl,rfl,rfl,HST⟩
 case round =>
  clear HST
  obtain ⟨rfl,rfl,rfl,HST⟩:=hrel
  obtain ⟨x0,x1,x2,x3,x4⟩:=HST.out.ref.facts
  clear x1 x2 x3 x4
  have z0:=(HST.out.ref.frozen 0)
  have hst2:=RSt.set 0 HST.out (.string ByteArray.empty) ByteArray.empty 0 0 false false rfl
  have HST2:=Lib.hid hst2;clear hst2
  go_wp2_with ((with_reducible refine wpList_store_ref (op:=⟨none,.store 59 (.tmp 2) (.tmp 30),_,_,_,_⟩) rfl (.tmp 2) (.tmp 30) rfl w.heap.size _ _ _ _ _ ⟨#[]⟩ 0 0 false false ?_ ?_ HST2.out.res ?_);rfl;rfl;intro w9 h9 g9;have HR9:=Lib.hid h9;clear h9;have HG9:=Lib.hid g9;clear g9)
  (try simp only [Exit.inBlock,Exit.then])
  exact bodyPost_ret (out_ref HR9.out _ _ false 2 3 res_ReadRef rfl rfl) rfl ⟨.inr ⟨HNR.out,rfl⟩,below_of_grownBy HST2.out.below HG9.out HST2.out.below.size (Nat.le_refl _)⟩
theorem refRead_any (s:ByteArray) (w:World) (hs:s.size≤1000000) :
 Calls Tryz.prog 111 #[.string s] w fun e w'=>Says (sb s) e∧Below w.heap.size w w':=by
 by_cases hno:(Rd.start s).sheetP.length=s.size
 · refine refRead_main s w hs (Rd.start s) rfl (Nat.zero_le _) ?_ s.size (.inl ⟨rfl,rfl,rfl⟩) ?_
   · intro e he
     unfold Rd.sheet at he;rw [if_pos (show (Rd.start s).sheetP.length=(Rd.start s).s.size from hno)] at he;injection he with he;exact he.symm
   · intro k h hk;exact sheetP_bytes s k h (by rw [hno];exact hk)
 · have hlt:(Rd.start s).sheetP.length<s.size:=sheetP_lt (Rd.start s) hno
   by_cases h0:(Rd.start s).sheetP.length=0
   · exact refRead_zero s w hs (by omega) h0
   · refine refRead_main s w hs { Rd.start s with sh:=s.extract 0 (Rd.start s).sheetP.length,k:=(Rd.start s).sheetP.length+1 } rfl hlt ?_ (Rd.start s).sheetP.length (.inr ⟨hlt,by omega,rfl,rfl,fun h=>sheetP_mark s _ rfl h⟩) (fun k h hk=>sheetP_bytes s k h hk)
     intro e he
     unfold Rd.sheet at he;rw [if_neg (show ¬ (Rd.start s).sheetP.length=(Rd.start s).s.size from hno)] at he
     by_cases hn:nameL (Rd.start s).sheetP=true
     · rw [if_pos hn] at he;injection he with he;rw [← he,sheetP_cut]
     · rw [if_neg hn] at he;cases he
theorem called_bad (s:ByteArray) (k:Nat) (h:k<s.size) (hx:(isCap ((sb s).getD k 0)||isNum ((sb s).getD k 0))=false):calledL (sb s)=false:=by
 unfold calledL;rw [Bool.and_eq_false_iff];left;rw [decide_eq_false_iff_not];intro hall
 have:=hall ((sb s).getD k 0) (by rw [sb_getD s k h];exact List.mem_of_getElem? (sb_at s k h))
 rw [hx] at this;cases this
theorem called_all (s:ByteArray) (h:∀ j,j<s.size→(isCap ((sb s).getD j 0)||isNum ((sb s).getD j 0))=true):calledL (sb s)=(decide (1≤s.size∧s.size≤12)&&isCap ((sb s).getD 0 0)):=by
 unfold calledL;rw [decide_eq_true (show ∀ x∈sb s,(isCap x||isNum x)=true from ?_),Bool.true_and,length_sb]
 intro x hx
 obtain ⟨j,hj,rfl⟩:=List.mem_iff_getElem.1 hx
 have:=h j (by rw [length_sb] at hj;exact hj)
 rw [List.getD_eq_getElem?_getD,List.getElem?_eq_getElem hj] at this
 exact this
set_option maxRecDepth 100000 in
set_option maxHeartbeats 800000 in
theorem refCalled_any (s:ByteArray) (w:World) (_hs:s.size≤1000000) :
 Calls Tryz.prog 112 #[.string s] w fun e w'=>e = .returned (.bool (calledL (sb s)))∧w=w':=by
 go_enter Tryz.func112,Tryz.ntmps112
 go_wp2_with fail
 go_loopw [3] (fun i wr=>∃ k:Nat,k≤s.size∧i = .int .i64 k∧Hid (∀ j,j<k→(isCap ((sb s).getD j 0)||isNum ((sb s).getD j 0))=true)∧w=wr)
  (fun i _=>s.size - (intOf i).toNat)
 case atStart=>exact ⟨0,by omega,rfl,Lib.hid (by intro j hj;omega),rfl⟩
 case round =>
  obtain ⟨k,hk,rfl,HG,rfl⟩:=hrel
  by_cases hlt:k<s.size
  · have hki:(k:Int)<(s.size:Int):=by omega
    obtain ⟨a,ha⟩:∃ a:Int,(s[k].toNat:Int)=a:=⟨_,rfl⟩
    have ha1:0≤a∧a≤255:=by have:=s[k].toNat_lt;omega
    have HGB:=Lib.hid (show (sb s).getD k 0=a by rw [sb_getD s k hlt,ha])
    have hnext:(isCap a||isNum a)=true→∀ j,j<k+1→(isCap ((sb s).getD j 0)||isNum ((sb s).getD j 0))=true:=by
     intro h j hj
     by_cases h1:j<k
     · exact HG.out j h1
     · rw [show j=k from by omega,HGB.out];exact h
    have HNEXT:=Lib.hid hnext;clear hnext
    cases hc:isCap a
    · cases hn:isNum a
      · have HNO:=Lib.hid (called_bad s k hlt (by rw [HGB.out,hc,hn];rfl))
        go_wp2_with (first
         | (go_at_call 150;((with_reducible refine (refCapital_any _ ?_ ?_ _).mono ?_);(first | omega | skip);(first | omega | skip);rintro e w' ⟨rfl,rfl⟩;rw [hc]))
         | (go_at_call 152;((with_reducible refine (refDigit_any _ ?_ ?_ _).mono ?_);(first | omega | skip);(first | omega | skip);rintro e w' ⟨rfl,rfl⟩;rw [hn])))
        go_ret
        exact ⟨ret_bool HNO.out.symm,rfl⟩
      · go_wp2_with (first
         | (go_at_call 150;((with_reducible refine (refCapital_any _ ?_ ?_ _).mono ?_);(first | omega | skip);(first | omega | skip);rintro e w' ⟨rfl,rfl⟩;rw [hc]))
         | (go_at_call 152;((with_reducible refine (refDigit_any _ ?_ ?_ _).mono ?_);(first | omega | skip);(first | omega | skip);rintro e w' ⟨rfl,rfl⟩;rw [hn])))
        go_roundw
        case rel=>exact ⟨k+1,by omega,by go_num,Lib.hid (HNEXT.out (by rw [hc,hn];rfl)),by trivial⟩
        case measure=>simp [intOf];omega
    · go_wp2_with (first
       | (go_at_call 150;((with_reducible refine (refCapital_any _ ?_ ?_ _).mono ?_);(first | omega | skip);(first | omega | skip);rintro e w' ⟨rfl,rfl⟩;rw [hc])))
      go_roundw
      case rel=>exact ⟨k+1,by omega,by go_num,Lib.hid (HNEXT.out (by rw [hc];rfl)),by trivial⟩
      case measure=>simp [intOf];omega
  · have hki:¬ (k:Int)<(s.size:Int):=by omega
    have HA:=Lib.hid (called_all s (fun j hj=>HG.out j (by omega)))
    by_cases h1:1≤s.size∧s.size≤12
    · have hi1:(1:Int)≤(s.size:Int):=by omega
      have hi2:(s.size:Int)≤12:=by omega
      have hp0:0<s.size:=by omega
      obtain ⟨a,ha⟩:∃ a:Int,(s[0].toNat:Int)=a:=⟨_,rfl⟩
      have ha1:0≤a∧a≤255:=by have:=s[0].toNat_lt;omega
      rw [decide_eq_true h1,Bool.true_and,sb_getD s 0 hp0,ha] at HA
      go_wp2_with (first
       | (go_at_call 150;((with_reducible refine (refCapital_any _ ?_ ?_ _).mono ?_);(first | omega | skip);(first | omega | skip);rintro e w' ⟨rfl,rfl⟩)))
      go_ret
      exact ⟨ret_bool HA.out.symm,rfl⟩
    · rw [decide_eq_false h1,Bool.false_and] at HA
      by_cases h0:1≤s.size
      · have hi1:(1:Int)≤(s.size:Int):=by omega
        have hi2:¬ (s.size:Int)≤12:=by omega
        go_wp2_with fail
        go_ret
        exact ⟨ret_bool HA.out.symm,rfl⟩
      · have hi1:¬ (1:Int)≤(s.size:Int):=by omega
        go_wp2_with fail
        go_ret
        exact ⟨ret_bool HA.out.symm,rfl⟩
set_option maxHeartbeats 800000 in
theorem refArms_any (k:Int) (w:World):Calls Tryz.prog 64 #[.int .i64 k] w fun e w'=>e = .returned (.int .i64 (armsN k))∧w=w':=by
 have fin:∀ r:Int,armsN k=r→(Calls Tryz.prog 64 #[.int .i64 k] w fun e w'=>e = .returned (.int .i64 r)∧w=w')→Calls Tryz.prog 64 #[.int .i64 k] w fun e w'=>e = .returned (.int .i64 (armsN k))∧w=w':=fun r h g=>by rw [h];exact g
 by_cases h1:1≤k
 · by_cases h6:k≤6
   · refine fin 0 (by unfold armsN;rw [if_pos ⟨h1,h6⟩]) ?_
     go_enter Tryz.func64,Tryz.ntmps64
     go_wp2_with fail
     go_ret
     exact ⟨rfl,rfl⟩
   · by_cases h7:k=7
     · have e7:(k == 7)=true:=beq_iff_eq.2 h7
       refine fin (-1) (by unfold armsN;rw [if_neg (by omega),if_pos h7]) ?_
       clear h7
       go_enter Tryz.func64,Tryz.ntmps64
       go_wp2_with fail
       go_ret
       exact ⟨rfl,rfl⟩
     · have e7:(k == 7)=false:=beq_eq_false_iff_ne.2 h7
       by_cases h8:k=8
       · have e8:(k == 8)=true:=beq_iff_eq.2 h8
         refine fin 1 (by unfold armsN;rw [if_neg (by omega),if_neg h7,if_pos h8]) ?_
         clear h7 h8
         go_enter Tryz.func64,Tryz.ntmps64
         go_wp2_with fail
         go_ret
         exact ⟨rfl,rfl⟩
       · have e8:(k == 8)=false:=beq_eq_false_iff_ne.2 h8
         have h9:9≤k:=by omega
         by_cases h19:k≤19
         · refine fin 2 (by unfold armsN;rw [if_neg (by omega),if_neg h7,if_neg h8,if_pos ⟨h9,h19⟩]) ?_
           clear h7 h8
           go_enter Tryz.func64,Tryz.ntmps64
           go_wp2_with fail
           go_ret
           exact ⟨rfl,rfl⟩
         · refine fin (-2) (by unfold armsN;rw [if_neg (by omega),if_neg h7,if_neg h8,if_neg (by omega)]) ?_
           clear h7 h8
           go_enter Tryz.func64,Tryz.ntmps64
           go_wp2_with fail
           go_ret
           exact ⟨rfl,rfl⟩
 · have e7:(k == 7)=false:=beq_eq_false_iff_ne.2 (by omega)
   have e8:(k == 8)=false:=beq_eq_false_iff_ne.2 (by omega)
   have h9:¬ 9≤k:=by omega
   refine fin (-2) (by unfold armsN;rw [if_neg (by omega),if_neg (by omega),if_neg (by omega),if_neg (by omega)]) ?_
   go_enter Tryz.func64,Tryz.ntmps64
   go_wp2_with fail
   go_ret
   exact ⟨rfl,rfl⟩
set_option maxRecDepth 100000 in
set_option maxHeartbeats 800000 in
theorem refNoRef_any (f:Rf) (w:World):Calls Tryz.prog 109 #[.agg #[.string f.sh,.int .i64 f.c,.int .i64 f.r,.bool f.ac,.bool f.ar]] w fun e w'=>e = .returned (.bool (noRf f))∧Below w.heap.size w w':=by
 have HN:=Lib.hid (noRf_eq f)
 have hx:=RefAt.new w f.sh f.c f.r f.ac f.ar
 have HB:=Lib.hid ((Below.refl w.heap.size w).alloc (Nat.le_refl _) (.cells #[.string f.sh,.int .i64 f.c,.int .i64 f.r,.bool f.ac,.bool f.ar] 59))
 go_enter Tryz.func109,Tryz.ntmps109
 go_upto_region 1 with (fail)
 generalize w.alloc (.cells #[.string f.sh,.int .i64 f.c,.int .i64 f.r,.bool f.ac,.bool f.ar] 59)=w1 at hx HB ⊢
 obtain ⟨x0,x1,x2,x3,x4⟩:=hx.facts
 clear hx
 have HEQ:=Lib.hid (fun (h1:f.sh.toList=[]) (h2:f.c=0) (h3:f.r=0) (h4:f.ac=false) (h5:f.ar=false)=>(eqR_of (a:=f) (b:=Rf.zero) (h1.trans empty_list.symm) h2 h3 h4 h5))
 go_wp2_with fail
 all_goals go_ret
 all_goals first
  | (have hv:eqR f Rf.zero=true:=HEQ.out ‹f.sh.toList=[]› ‹f.c=0› ‹f.r=0› (by simpa using ‹¬ f.ac=true›) (by simpa using ‹¬ f.ar=true›)
     exact ⟨by rw [HN.out,hv];rfl,HB.out⟩)
  | (have hv:eqR f Rf.zero=false:=by
      cases hq:eqR f Rf.zero
      · rfl
      · exfalso
        have hz:=(eqR_iff f Rf.zero).1 hq
        clear x0 x1 x2 x3 x4 HEQ HN hq
        subst hz
        first
         | exact absurd (show Rf.zero.sh.toList=[] from empty_list) ‹¬ Rf.zero.sh.toList=[]›
         | exact absurd (show Rf.zero.c=0 from rfl) ‹¬ Rf.zero.c=0›
         | exact absurd (show Rf.zero.r=0 from rfl) ‹¬ Rf.zero.r=0›
         | exact absurd ‹Rf.zero.ac=true› (by decide)
         | exact absurd ‹Rf.zero.ar=true› (by decide)
     exact ⟨by rw [HN.out,hv];rfl,HB.out⟩)
set_option maxRecDepth 100000 in
set_option maxHeartbeats 800000 in
theorem refPrintable_any (s:ByteArray) (w:World) (_hs:s.size≤1000000):Calls Tryz.prog 110 #[.string s] w fun e w'=>e = .returned (.bool (printB (sb s)))∧w=w':=by
 go_enter Tryz.func110,Tryz.ntmps110
 go_wp2_with fail
 go_loopw [3] (fun i wr=>∃ k:Nat,k≤s.size∧i = .int .i64 k∧Hid (∀ (j:Nat) (hj:j<s.size),j<k→¬ ((s[j].toNat:Nat):Int)<32)∧w=wr)
  (fun i _=>s.size - (intOf i).toNat)
 case atStart=>exact ⟨0,by omega,rfl,Lib.hid (by intro j _ hj;omega),rfl⟩
 case round =>
  obtain ⟨k,hk,rfl,HG,rfl⟩:=hrel
  by_cases hlt:k<s.size
  · have hki:(k:Int)<(s.size:Int):=by omega
    obtain ⟨a,ha⟩:∃ a:Int,(s[k].toNat:Int)=a:=⟨_,rfl⟩
    have ha1:0≤a∧a≤255:=by have:=s[k].toNat_lt;omega
    have HA:=Lib.hid ha
    by_cases h32:a<32
    · have HB:=Lib.hid (printB_bad s k hlt (by rw [ha];exact h32))
      go_wp2_with fail
      go_ret
      exact ⟨by rw [HB.out] <;> rfl,rfl⟩
    · go_wp2_with fail
      go_roundw
      case rel =>
       refine ⟨k+1,by omega,by go_num,Lib.hid ?_,by first | rfl | trivial⟩
       intro j hj hjk
       by_cases e:j=k
       · subst e;rw [HA.out];exact h32
       · exact HG.out j hj (by omega)
      case measure=>simp [intOf];omega
  · have hki:¬ (k:Int)<(s.size:Int):=by omega
    have HB:=Lib.hid (printB_all s (fun j hj=>HG.out j hj (by omega)))
    go_wp2_with fail
    go_ret
    exact ⟨by rw [HB.out] <;> rfl,rfl⟩
set_option maxRecDepth 100000 in
set_option maxHeartbeats 800000 in
theorem refSpan_any (s1 s2:ByteArray) (c1 r1 c2 r2:Int) (a1 b1 a2 b2:Bool) (w:World) :
 Calls Tryz.prog 114 #[.agg #[.string s1,.int .i64 c1,.int .i64 r1,.bool a1,.bool b1],.agg #[.string s2,.int .i64 c2,.int .i64 r2,.bool a2,.bool b2]] w fun e w'=>e = .returned (.bool (spanB ⟨s1,c1,r1,a1,b1⟩ ⟨s2,c2,r2,a2,b2⟩))∧Below w.heap.size w w':=by
 have hsz:(w.alloc (.cells #[.string s1,.int .i64 c1,.int .i64 r1,.bool a1,.bool b1] 59)).heap.size=w.heap.size+1:=by simp
 have h1:=RefAt.new w s1 c1 r1 a1 b1
 have h2:=RefAt.new (w.alloc (.cells #[.string s1,.int .i64 c1,.int .i64 r1,.bool a1,.bool b1] 59)) s2 c2 r2 a2 b2
 have h3:=h1.below ((Below.refl _ _).alloc (Nat.le_refl _) (.cells #[.string s2,.int .i64 c2,.int .i64 r2,.bool a2,.bool b2] 59)) h1.lt
 rw [hsz] at h2
 have HB:=Lib.hid (((Below.refl w.heap.size w).alloc (Nat.le_refl _) (.cells #[.string s1,.int .i64 c1,.int .i64 r1,.bool a1,.bool b1] 59)).alloc (by simp) (.cells #[.string s2,.int .i64 c2,.int .i64 r2,.bool a2,.bool b2] 59))
 have HS:=Lib.hid (show spanB ⟨s1,c1,r1,a1,b1⟩ ⟨s2,c2,r2,a2,b2⟩=(decide (s2=⟨#[]⟩)&&(decide (c1≤c2)&&decide (r1≤r2))) from rfl)
 clear h1
 go_enter Tryz.func114,Tryz.ntmps114
 go_upto_region 1 with (fail)
 generalize (w.alloc (.cells #[.string s1,.int .i64 c1,.int .i64 r1,.bool a1,.bool b1] 59)).alloc (.cells #[.string s2,.int .i64 c2,.int .i64 r2,.bool a2,.bool b2] 59)=w1 at h2 h3 HB ⊢
 obtain ⟨x0,x1,x2,x3,x4⟩:=h2.facts
 obtain ⟨y0,y1,y2,y3,y4⟩:=h3.facts
 clear h2 h3
 by_cases hs:s2=⟨#[]⟩
 · subst hs
   have e0:=empty_list
   by_cases hc:c1≤c2
   · by_cases hr:r1≤r2
     · have HT:=Lib.hid (show spanB ⟨s1,c1,r1,a1,b1⟩ ⟨⟨#[]⟩,c2,r2,a2,b2⟩=true by rw [HS.out,decide_eq_true hc,decide_eq_true hr];rfl)
       go_wp2_with fail
       go_ret
       exact ⟨by rw [HT.out];rfl,HB.out⟩
     · have HT:=Lib.hid (show spanB ⟨s1,c1,r1,a1,b1⟩ ⟨⟨#[]⟩,c2,r2,a2,b2⟩=false by rw [HS.out,decide_eq_true hc,decide_eq_false hr];rfl)
       go_wp2_with fail
       go_ret
       exact ⟨by rw [HT.out];rfl,HB.out⟩
   · have HT:=Lib.hid (show spanB ⟨s1,c1,r1,a1,b1⟩ ⟨⟨#[]⟩,c2,r2,a2,b2⟩=false by rw [HS.out,decide_eq_false hc];rfl)
     go_wp2_with fail
     go_ret
     exact ⟨by rw [HT.out];rfl,HB.out⟩
 · have HT:=Lib.hid (show spanB ⟨s1,c1,r1,a1,b1⟩ ⟨s2,c2,r2,a2,b2⟩=false by rw [HS.out,decide_eq_false hs];rfl)
   have e0:¬ s2.toList=[]:=by rw [← empty_list];exact text_ne _ _ hs
   have e1:s2.toList.isEmpty=false:=by simpa using e0
   clear hs
   go_wp2_with fail
   go_ret
   exact ⟨by rw [HT.out];rfl,HB.out⟩
set_option maxRecDepth 100000 in
set_option maxHeartbeats 2000000 in
theorem refLeaf_1 (n:Nd) (hk:n.kind=1) (_hs:n.text.size≤1000000) (_hr:n.ref.sh.size≤1000000) (_ht:n.to.sh.size≤1000000) (A:Option Addr) (m c:Nat) (w:World):Calls Tryz.prog 65 #[.agg #[.int .i64 n.kind,.int .i64 n.num,.string n.text,.string n.ref.sh,.int .i64 n.ref.c,.int .i64 n.ref.r,.bool n.ref.ac,.bool n.ref.ar,.string n.to.sh,.int .i64 n.to.c,.int .i64 n.to.r,.bool n.to.ac,.bool n.to.ar,.slice A m c]] w fun e w'=>e = .returned (.bool (leafB n))∧Below w.heap.size w w':=by
 have hx:NdAt (w.alloc (.cells #[.int .i64 n.kind,.int .i64 n.num,.string n.text,.string n.ref.sh,.int .i64 n.ref.c,.int .i64 n.ref.r,.bool n.ref.ac,.bool n.ref.ar,.string n.to.sh,.int .i64 n.to.c,.int .i64 n.to.r,.bool n.to.ac,.bool n.to.ar,.slice A m c] 61)) w.heap.size n (.slice A m c):=NdAt.new w n _
 have HB:=Lib.hid ((Below.refl w.heap.size w).alloc (Nat.le_refl _) (.cells #[.int .i64 n.kind,.int .i64 n.num,.string n.text,.string n.ref.sh,.int .i64 n.ref.c,.int .i64 n.ref.r,.bool n.ref.ac,.bool n.ref.ar,.string n.to.sh,.int .i64 n.to.c,.int .i64 n.to.r,.bool n.to.ac,.bool n.to.ar,.slice A m c] 61))
 have HN1:=Lib.hid (fun w=>refNoRef_any n.ref w)
 have HN2:=Lib.hid (fun w=>refNoRef_any n.to w)
 have HK:=Lib.hid hk
 clear hk
 go_enter Tryz.func65,Tryz.ntmps65
 go_upto_region 1 with (fail)
 generalize w.alloc (.cells #[.int .i64 n.kind,.int .i64 n.num,.string n.text,.string n.ref.sh,.int .i64 n.ref.c,.int .i64 n.ref.r,.bool n.ref.ac,.bool n.ref.ar,.string n.to.sh,.int .i64 n.to.c,.int .i64 n.to.r,.bool n.to.ac,.bool n.to.ar,.slice A m c] 61)=w1 at hx HB ⊢
 generalize hb0:w.heap.size=b0 at hx ⊢
 obtain ⟨x0,x1,x2,x3,x4,x5,x6,x7,x8,x9,x10,x11,x12,x13⟩:=hx.cells
 have HX:=Lib.hid hx
 clear hx
 have hk:=HK.out
 rw [hk] at x0
 by_cases htext:n.text=⟨#[]⟩
 rotate_left
 · have t0:¬ n.text.toList=[]:=by rw [← empty_list];exact text_ne _ _ htext
   have t1:n.text.toList.isEmpty=false:=by simpa using t0
   have HR:=Lib.hid (show leafB n=false by unfold leafB;simp [hk,htext])
   clear htext
   clear hk
   go_wp2_with (fail)
   go_ret
   exact ⟨by rw [HR.out] <;> rfl,HB.out⟩
 have t0:=empty_list
 rw [htext] at x2
 cases hq1:noRf n.ref
 · have HQref:=Lib.hid hq1
   have HR:=Lib.hid (show leafB n=false by unfold leafB;simp [hk,htext,hq1])
   clear hq1
   clear htext
   clear hk
   go_wp2_with ((go_at_call 109;((with_reducible refine (HN1.out _).mono ?_);rintro e w2 ⟨rfl,h1⟩;rw [HQref.out];have HB2:=Lib.hid (HB.out.trans (h1.mono HB.out.size));have HX2:=Lib.hid (HX.out.below h1 HX.out.lt);clear x0 x1 x2 x3 x4 x5 x6 x7 x8 x9 x10 x11 x12 x13;obtain ⟨x0,x1,x2,x3,x4,x5,x6,x7,x8,x9,x10,x11,x12,x13⟩:=HX2.out.cells;rw [HK.out] at x0;clear h1)))
   go_ret
   exact ⟨by rw [HR.out] <;> rfl,HB2.out⟩
 have HQref:=Lib.hid hq1
 cases hq2:noRf n.to
 · have HQto:=Lib.hid hq2
   have HR:=Lib.hid (show leafB n=false by unfold leafB;simp [hk,htext,hq1,hq2])
   clear hq2
   clear htext
   clear hq1
   clear hk
   go_wp2_with (first
    | (go_at_call 109;((with_reducible refine (HN1.out _).mono ?_);rintro e w2 ⟨rfl,h1⟩;rw [HQref.out];have HB2:=Lib.hid (HB.out.trans (h1.mono HB.out.size));have HX2:=Lib.hid (HX.out.below h1 HX.out.lt);clear x0 x1 x2 x3 x4 x5 x6 x7 x8 x9 x10 x11 x12 x13;obtain ⟨x0,x1,x2,x3,x4,x5,x6,x7,x8,x9,x10,x11,x12,x13⟩:=HX2.out.cells;rw [HK.out] at x0;clear h1;clear HN1))
    | (go_at_call 109;((with_reducible refine (HN2.out _).mono ?_);rintro e w3 ⟨rfl,h1⟩;rw [HQto.out];have HB3:=Lib.hid (HB2.out.trans (h1.mono HB2.out.size));have HX3:=Lib.hid (HX2.out.below h1 HX2.out.lt);clear x0 x1 x2 x3 x4 x5 x6 x7 x8 x9 x10 x11 x12 x13;obtain ⟨x0,x1,x2,x3,x4,x5,x6,x7,x8,x9,x10,x11,x12,x13⟩:=HX3.out.cells;rw [HK.out] at x0;clear h1)))
   go_ret
   exact ⟨by rw [HR.out] <;> rfl,HB3.out⟩
 have HQto:=Lib.hid hq2
 have HR:=Lib.hid (show leafB n=decide (0≤n.num) by unfold leafB;simp [hk,htext,hq1,hq2])
 clear htext
 clear hq1
 clear hq2
 clear hk
 go_wp2_with (first
  | (go_at_call 109;((with_reducible refine (HN1.out _).mono ?_);rintro e w2 ⟨rfl,h1⟩;rw [HQref.out];have HB2:=Lib.hid (HB.out.trans (h1.mono HB.out.size));have HX2:=Lib.hid (HX.out.below h1 HX.out.lt);clear x0 x1 x2 x3 x4 x5 x6 x7 x8 x9 x10 x11 x12 x13;obtain ⟨x0,x1,x2,x3,x4,x5,x6,x7,x8,x9,x10,x11,x12,x13⟩:=HX2.out.cells;rw [HK.out] at x0;clear h1;clear HN1))
  | (go_at_call 109;((with_reducible refine (HN2.out _).mono ?_);rintro e w3 ⟨rfl,h1⟩;rw [HQto.out];have HB3:=Lib.hid (HB2.out.trans (h1.mono HB2.out.size));have HX3:=Lib.hid (HX2.out.below h1 HX2.out.lt);clear x0 x1 x2 x3 x4 x5 x6 x7 x8 x9 x10 x11 x12 x13;obtain ⟨x0,x1,x2,x3,x4,x5,x6,x7,x8,x9,x10,x11,x12,x13⟩:=HX3.out.cells;rw [HK.out] at x0;clear h1)))
 go_ret
 exact ⟨by rw [HR.out] <;> rfl,HB3.out⟩
set_option maxRecDepth 100000 in
set_option maxHeartbeats 2000000 in
theorem refLeaf_2 (n:Nd) (hk:n.kind=2) (hs:n.text.size≤1000000) (_hr:n.ref.sh.size≤1000000) (_ht:n.to.sh.size≤1000000) (A:Option Addr) (m c:Nat) (w:World):Calls Tryz.prog 65 #[.agg #[.int .i64 n.kind,.int .i64 n.num,.string n.text,.string n.ref.sh,.int .i64 n.ref.c,.int .i64 n.ref.r,.bool n.ref.ac,.bool n.ref.ar,.string n.to.sh,.int .i64 n.to.c,.int .i64 n.to.r,.bool n.to.ac,.bool n.to.ar,.slice A m c]] w fun e w'=>e = .returned (.bool (leafB n))∧Below w.heap.size w w':=by
 have hx:NdAt (w.alloc (.cells #[.int .i64 n.kind,.int .i64 n.num,.string n.text,.string n.ref.sh,.int .i64 n.ref.c,.int .i64 n.ref.r,.bool n.ref.ac,.bool n.ref.ar,.string n.to.sh,.int .i64 n.to.c,.int .i64 n.to.r,.bool n.to.ac,.bool n.to.ar,.slice A m c] 61)) w.heap.size n (.slice A m c):=NdAt.new w n _
 have HB:=Lib.hid ((Below.refl w.heap.size w).alloc (Nat.le_refl _) (.cells #[.int .i64 n.kind,.int .i64 n.num,.string n.text,.string n.ref.sh,.int .i64 n.ref.c,.int .i64 n.ref.r,.bool n.ref.ac,.bool n.ref.ar,.string n.to.sh,.int .i64 n.to.c,.int .i64 n.to.r,.bool n.to.ac,.bool n.to.ar,.slice A m c] 61))
 have HN1:=Lib.hid (fun w=>refNoRef_any n.ref w)
 have HN2:=Lib.hid (fun w=>refNoRef_any n.to w)
 have HK:=Lib.hid hk
 clear hk
 go_enter Tryz.func65,Tryz.ntmps65
 go_upto_region 1 with (fail)
 generalize w.alloc (.cells #[.int .i64 n.kind,.int .i64 n.num,.string n.text,.string n.ref.sh,.int .i64 n.ref.c,.int .i64 n.ref.r,.bool n.ref.ac,.bool n.ref.ar,.string n.to.sh,.int .i64 n.to.c,.int .i64 n.to.r,.bool n.to.ac,.bool n.to.ar,.slice A m c] 61)=w1 at hx HB ⊢
 generalize hb0:w.heap.size=b0 at hx ⊢
 obtain ⟨x0,x1,x2,x3,x4,x5,x6,x7,x8,x9,x10,x11,x12,x13⟩:=hx.cells
 have HX:=Lib.hid hx
 clear hx
 have hk:=HK.out
 rw [hk] at x0
 by_cases hnum:n.num=0
 rotate_left
 · have en:(n.num != 0)=true:=by rw [bne_iff_ne];exact hnum
   have HR:=Lib.hid (show leafB n=false by unfold leafB;simp [hk,hnum])
   clear hnum
   clear hk
   go_wp2_with (fail)
   go_ret
   exact ⟨by rw [HR.out] <;> rfl,HB.out⟩
 rw [hnum] at x1
 cases hq1:noRf n.ref
 · have HQref:=Lib.hid hq1
   have HR:=Lib.hid (show leafB n=false by unfold leafB;simp [hk,hnum,hq1])
   clear hq1
   clear hnum
   clear hk
   go_wp2_with ((go_at_call 109;((with_reducible refine (HN1.out _).mono ?_);rintro e w2 ⟨rfl,h1⟩;rw [HQref.out];have HB2:=Lib.hid (HB.out.trans (h1.mono HB.out.size));have HX2:=Lib.hid (HX.out.below h1 HX.out.lt);clear x0 x1 x2 x3 x4 x5 x6 x7 x8 x9 x10 x11 x12 x13;obtain ⟨x0,x1,x2,x3,x4,x5,x6,x7,x8,x9,x10,x11,x12,x13⟩:=HX2.out.cells;rw [HK.out] at x0;clear h1)))
   go_ret
   exact ⟨by rw [HR.out] <;> rfl,HB2.out⟩
 have HQref:=Lib.hid hq1
 cases hq2:noRf n.to
 · have HQto:=Lib.hid hq2
   have HR:=Lib.hid (show leafB n=false by unfold leafB;simp [hk,hnum,hq1,hq2])
   clear hq2
   clear hnum
   clear hq1
   clear hk
   go_wp2_with (first
    | (go_at_call 109;((with_reducible refine (HN1.out _).mono ?_);rintro e w2 ⟨rfl,h1⟩;rw [HQref.out];have HB2:=Lib.hid (HB.out.trans (h1.mono HB.out.size));have HX2:=Lib.hid (HX.out.below h1 HX.out.lt);clear x0 x1 x2 x3 x4 x5 x6 x7 x8 x9 x10 x11 x12 x13;obtain ⟨x0,x1,x2,x3,x4,x5,x6,x7,x8,x9,x10,x11,x12,x13⟩:=HX2.out.cells;rw [HK.out] at x0;clear h1;clear HN1))
    | (go_at_call 109;((with_reducible refine (HN2.out _).mono ?_);rintro e w3 ⟨rfl,h1⟩;rw [HQto.out];have HB3:=Lib.hid (HB2.out.trans (h1.mono HB2.out.size));have HX3:=Lib.hid (HX2.out.below h1 HX2.out.lt);clear x0 x1 x2 x3 x4 x5 x6 x7 x8 x9 x10 x11 x12 x13;obtain ⟨x0,x1,x2,x3,x4,x5,x6,x7,x8,x9,x10,x11,x12,x13⟩:=HX3.out.cells;rw [HK.out] at x0;clear h1)))
   go_ret
   exact ⟨by rw [HR.out] <;> rfl,HB3.out⟩
 have HQto:=Lib.hid hq2
 have HR:=Lib.hid (show leafB n=printB (sb n.text) by unfold leafB;simp [hk,hnum,hq1,hq2])
 clear hnum
 clear hq1
 clear hq2
 clear hk
 go_wp2_with (first
  | (go_at_call 109;((with_reducible refine (HN1.out _).mono ?_);rintro e w2 ⟨rfl,h1⟩;rw [HQref.out];have HB2:=Lib.hid (HB.out.trans (h1.mono HB.out.size));have HX2:=Lib.hid (HX.out.below h1 HX.out.lt);clear x0 x1 x2 x3 x4 x5 x6 x7 x8 x9 x10 x11 x12 x13;obtain ⟨x0,x1,x2,x3,x4,x5,x6,x7,x8,x9,x10,x11,x12,x13⟩:=HX2.out.cells;rw [HK.out] at x0;clear h1;clear HN1))
  | (go_at_call 109;((with_reducible refine (HN2.out _).mono ?_);rintro e w3 ⟨rfl,h1⟩;rw [HQto.out];have HB3:=Lib.hid (HB2.out.trans (h1.mono HB2.out.size));have HX3:=Lib.hid (HX2.out.below h1 HX2.out.lt);clear x0 x1 x2 x3 x4 x5 x6 x7 x8 x9 x10 x11 x12 x13;obtain ⟨x0,x1,x2,x3,x4,x5,x6,x7,x8,x9,x10,x11,x12,x13⟩:=HX3.out.cells;rw [HK.out] at x0;clear h1))
  | (go_at_call 110;((with_reducible refine (refPrintable_any _ _ hs).mono ?_);rintro e wp ⟨rfl,rfl⟩)))
 go_ret
 exact ⟨by rw [HR.out] <;> rfl,HB3.out⟩
set_option maxRecDepth 100000 in
set_option maxHeartbeats 2000000 in
theorem refLeaf_3 (n:Nd) (hk:n.kind=3) (_hs:n.text.size≤1000000) (_hr:n.ref.sh.size≤1000000) (_ht:n.to.sh.size≤1000000) (A:Option Addr) (m c:Nat) (w:World):Calls Tryz.prog 65 #[.agg #[.int .i64 n.kind,.int .i64 n.num,.string n.text,.string n.ref.sh,.int .i64 n.ref.c,.int .i64 n.ref.r,.bool n.ref.ac,.bool n.ref.ar,.string n.to.sh,.int .i64 n.to.c,.int .i64 n.to.r,.bool n.to.ac,.bool n.to.ar,.slice A m c]] w fun e w'=>e = .returned (.bool (leafB n))∧Below w.heap.size w w':=by
 have hx:NdAt (w.alloc (.cells #[.int .i64 n.kind,.int .i64 n.num,.string n.text,.string n.ref.sh,.int .i64 n.ref.c,.int .i64 n.ref.r,.bool n.ref.ac,.bool n.ref.ar,.string n.to.sh,.int .i64 n.to.c,.int .i64 n.to.r,.bool n.to.ac,.bool n.to.ar,.slice A m c] 61)) w.heap.size n (.slice A m c):=NdAt.new w n _
 have HB:=Lib.hid ((Below.refl w.heap.size w).alloc (Nat.le_refl _) (.cells #[.int .i64 n.kind,.int .i64 n.num,.string n.text,.string n.ref.sh,.int .i64 n.ref.c,.int .i64 n.ref.r,.bool n.ref.ac,.bool n.ref.ar,.string n.to.sh,.int .i64 n.to.c,.int .i64 n.to.r,.bool n.to.ac,.bool n.to.ar,.slice A m c] 61))
 have HN1:=Lib.hid (fun w=>refNoRef_any n.ref w)
 have HN2:=Lib.hid (fun w=>refNoRef_any n.to w)
 have HK:=Lib.hid hk
 clear hk
 go_enter Tryz.func65,Tryz.ntmps65
 go_upto_region 1 with (fail)
 generalize w.alloc (.cells #[.int .i64 n.kind,.int .i64 n.num,.string n.text,.string n.ref.sh,.int .i64 n.ref.c,.int .i64 n.ref.r,.bool n.ref.ac,.bool n.ref.ar,.string n.to.sh,.int .i64 n.to.c,.int .i64 n.to.r,.bool n.to.ac,.bool n.to.ar,.slice A m c] 61)=w1 at hx HB ⊢
 generalize hb0:w.heap.size=b0 at hx ⊢
 obtain ⟨x0,x1,x2,x3,x4,x5,x6,x7,x8,x9,x10,x11,x12,x13⟩:=hx.cells
 have HX:=Lib.hid hx
 clear hx
 have hk:=HK.out
 rw [hk] at x0
 by_cases htext:n.text=⟨#[]⟩
 rotate_left
 · have t0:¬ n.text.toList=[]:=by rw [← empty_list];exact text_ne _ _ htext
   have t1:n.text.toList.isEmpty=false:=by simpa using t0
   have HR:=Lib.hid (show leafB n=false by unfold leafB;simp [hk,htext])
   clear htext
   clear hk
   go_wp2_with (fail)
   go_ret
   exact ⟨by rw [HR.out] <;> rfl,HB.out⟩
 have t0:=empty_list
 rw [htext] at x2
 cases hq1:noRf n.ref
 · have HQref:=Lib.hid hq1
   have HR:=Lib.hid (show leafB n=false by unfold leafB;simp [hk,htext,hq1])
   clear hq1
   clear htext
   clear hk
   go_wp2_with ((go_at_call 109;((with_reducible refine (HN1.out _).mono ?_);rintro e w2 ⟨rfl,h1⟩;rw [HQref.out];have HB2:=Lib.hid (HB.out.trans (h1.mono HB.out.size));have HX2:=Lib.hid (HX.out.below h1 HX.out.lt);clear x0 x1 x2 x3 x4 x5 x6 x7 x8 x9 x10 x11 x12 x13;obtain ⟨x0,x1,x2,x3,x4,x5,x6,x7,x8,x9,x10,x11,x12,x13⟩:=HX2.out.cells;rw [HK.out] at x0;clear h1)))
   go_ret
   exact ⟨by rw [HR.out] <;> rfl,HB2.out⟩
 have HQref:=Lib.hid hq1
 cases hq2:noRf n.to
 · have HQto:=Lib.hid hq2
   have HR:=Lib.hid (show leafB n=false by unfold leafB;simp [hk,htext,hq1,hq2])
   clear hq2
   clear htext
   clear hq1
   clear hk
   go_wp2_with (first
    | (go_at_call 109;((with_reducible refine (HN1.out _).mono ?_);rintro e w2 ⟨rfl,h1⟩;rw [HQref.out];have HB2:=Lib.hid (HB.out.trans (h1.mono HB.out.size));have HX2:=Lib.hid (HX.out.below h1 HX.out.lt);clear x0 x1 x2 x3 x4 x5 x6 x7 x8 x9 x10 x11 x12 x13;obtain ⟨x0,x1,x2,x3,x4,x5,x6,x7,x8,x9,x10,x11,x12,x13⟩:=HX2.out.cells;rw [HK.out] at x0;clear h1;clear HN1))
    | (go_at_call 109;((with_reducible refine (HN2.out _).mono ?_);rintro e w3 ⟨rfl,h1⟩;rw [HQto.out];have HB3:=Lib.hid (HB2.out.trans (h1.mono HB2.out.size));have HX3:=Lib.hid (HX2.out.below h1 HX2.out.lt);clear x0 x1 x2 x3 x4 x5 x6 x7 x8 x9 x10 x11 x12 x13;obtain ⟨x0,x1,x2,x3,x4,x5,x6,x7,x8,x9,x10,x11,x12,x13⟩:=HX3.out.cells;rw [HK.out] at x0;clear h1)))
   go_ret
   exact ⟨by rw [HR.out] <;> rfl,HB3.out⟩
 have HQto:=Lib.hid hq2
 by_cases h0:n.num=0
 · have HR:=Lib.hid (show leafB n=true by unfold leafB;simp [hk,htext,hq1,hq2,h0])
   have e0:(n.num == 0)=true:=beq_iff_eq.2 h0
   clear htext
   clear hq1
   clear hq2
   clear hk
   clear h0
   go_wp2_with (first
    | (go_at_call 109;((with_reducible refine (HN1.out _).mono ?_);rintro e w2 ⟨rfl,h1⟩;rw [HQref.out];have HB2:=Lib.hid (HB.out.trans (h1.mono HB.out.size));have HX2:=Lib.hid (HX.out.below h1 HX.out.lt);clear x0 x1 x2 x3 x4 x5 x6 x7 x8 x9 x10 x11 x12 x13;obtain ⟨x0,x1,x2,x3,x4,x5,x6,x7,x8,x9,x10,x11,x12,x13⟩:=HX2.out.cells;rw [HK.out] at x0;clear h1;clear HN1))
    | (go_at_call 109;((with_reducible refine (HN2.out _).mono ?_);rintro e w3 ⟨rfl,h1⟩;rw [HQto.out];have HB3:=Lib.hid (HB2.out.trans (h1.mono HB2.out.size));have HX3:=Lib.hid (HX2.out.below h1 HX2.out.lt);clear x0 x1 x2 x3 x4 x5 x6 x7 x8 x9 x10 x11 x12 x13;obtain ⟨x0,x1,x2,x3,x4,x5,x6,x7,x8,x9,x10,x11,x12,x13⟩:=HX3.out.cells;rw [HK.out] at x0;clear h1)))
   go_ret
   exact ⟨by rw [HR.out] <;> rfl,HB3.out⟩
 · have e0:(n.num == 0)=false:=beq_eq_false_iff_ne.2 h0
   by_cases h1:n.num=1
   · have e1:(n.num == 1)=true:=beq_iff_eq.2 h1
     have HR:=Lib.hid (show leafB n=true by unfold leafB;simp [hk,htext,hq1,hq2,h1])
     clear htext
     clear hq1
     clear hq2
     clear hk
     clear h0 h1
     go_wp2_with (first
      | (go_at_call 109;((with_reducible refine (HN1.out _).mono ?_);rintro e w2 ⟨rfl,h1⟩;rw [HQref.out];have HB2:=Lib.hid (HB.out.trans (h1.mono HB.out.size));have HX2:=Lib.hid (HX.out.below h1 HX.out.lt);clear x0 x1 x2 x3 x4 x5 x6 x7 x8 x9 x10 x11 x12 x13;obtain ⟨x0,x1,x2,x3,x4,x5,x6,x7,x8,x9,x10,x11,x12,x13⟩:=HX2.out.cells;rw [HK.out] at x0;clear h1;clear HN1))
      | (go_at_call 109;((with_reducible refine (HN2.out _).mono ?_);rintro e w3 ⟨rfl,h1⟩;rw [HQto.out];have HB3:=Lib.hid (HB2.out.trans (h1.mono HB2.out.size));have HX3:=Lib.hid (HX2.out.below h1 HX2.out.lt);clear x0 x1 x2 x3 x4 x5 x6 x7 x8 x9 x10 x11 x12 x13;obtain ⟨x0,x1,x2,x3,x4,x5,x6,x7,x8,x9,x10,x11,x12,x13⟩:=HX3.out.cells;rw [HK.out] at x0;clear h1)))
     go_ret
     exact ⟨by rw [HR.out] <;> rfl,HB3.out⟩
   · have e1:(n.num == 1)=false:=beq_eq_false_iff_ne.2 h1
     have HR:=Lib.hid (show leafB n=false by unfold leafB;simp [hk,htext,hq1,hq2,h0,h1])
     clear htext
     clear hq1
     clear hq2
     clear hk
     clear h0 h1
     go_wp2_with (first
      | (go_at_call 109;((with_reducible refine (HN1.out _).mono ?_);rintro e w2 ⟨rfl,h1⟩;rw [HQref.out];have HB2:=Lib.hid (HB.out.trans (h1.mono HB.out.size));have HX2:=Lib.hid (HX.out.below h1 HX.out.lt);clear x0 x1 x2 x3 x4 x5 x6 x7 x8 x9 x10 x11 x12 x13;obtain ⟨x0,x1,x2,x3,x4,x5,x6,x7,x8,x9,x10,x11,x12,x13⟩:=HX2.out.cells;rw [HK.out] at x0;clear h1;clear HN1))
      | (go_at_call 109;((with_reducible refine (HN2.out _).mono ?_);rintro e w3 ⟨rfl,h1⟩;rw [HQto.out];have HB3:=Lib.hid (HB2.out.trans (h1.mono HB2.out.size));have HX3:=Lib.hid (HX2.out.below h1 HX2.out.lt);clear x0 x1 x2 x3 x4 x5 x6 x7 x8 x9 x10 x11 x12 x13;obtain ⟨x0,x1,x2,x3,x4,x5,x6,x7,x8,x9,x10,x11,x12,x13⟩:=HX3.out.cells;rw [HK.out] at x0;clear h1)))
     go_ret
     exact ⟨by rw [HR.out] <;> rfl,HB3.out⟩
set_option maxRecDepth 100000 in
set_option maxHeartbeats 2000000 in
theorem refLeaf_5 (n:Nd) (hk:n.kind=5) (_hs:n.text.size≤1000000) (hr:n.ref.sh.size≤1000000) (_ht:n.to.sh.size≤1000000) (A:Option Addr) (m c:Nat) (w:World):Calls Tryz.prog 65 #[.agg #[.int .i64 n.kind,.int .i64 n.num,.string n.text,.string n.ref.sh,.int .i64 n.ref.c,.int .i64 n.ref.r,.bool n.ref.ac,.bool n.ref.ar,.string n.to.sh,.int .i64 n.to.c,.int .i64 n.to.r,.bool n.to.ac,.bool n.to.ar,.slice A m c]] w fun e w'=>e = .returned (.bool (leafB n))∧Below w.heap.size w w':=by
 have hx:NdAt (w.alloc (.cells #[.int .i64 n.kind,.int .i64 n.num,.string n.text,.string n.ref.sh,.int .i64 n.ref.c,.int .i64 n.ref.r,.bool n.ref.ac,.bool n.ref.ar,.string n.to.sh,.int .i64 n.to.c,.int .i64 n.to.r,.bool n.to.ac,.bool n.to.ar,.slice A m c] 61)) w.heap.size n (.slice A m c):=NdAt.new w n _
 have HB:=Lib.hid ((Below.refl w.heap.size w).alloc (Nat.le_refl _) (.cells #[.int .i64 n.kind,.int .i64 n.num,.string n.text,.string n.ref.sh,.int .i64 n.ref.c,.int .i64 n.ref.r,.bool n.ref.ac,.bool n.ref.ar,.string n.to.sh,.int .i64 n.to.c,.int .i64 n.to.r,.bool n.to.ac,.bool n.to.ar,.slice A m c] 61))
 have HN1:=Lib.hid (fun w=>refNoRef_any n.ref w)
 have HN2:=Lib.hid (fun w=>refNoRef_any n.to w)
 have HK:=Lib.hid hk
 clear hk
 go_enter Tryz.func65,Tryz.ntmps65
 go_upto_region 1 with (fail)
 generalize w.alloc (.cells #[.int .i64 n.kind,.int .i64 n.num,.string n.text,.string n.ref.sh,.int .i64 n.ref.c,.int .i64 n.ref.r,.bool n.ref.ac,.bool n.ref.ar,.string n.to.sh,.int .i64 n.to.c,.int .i64 n.to.r,.bool n.to.ac,.bool n.to.ar,.slice A m c] 61)=w1 at hx HB ⊢
 generalize hb0:w.heap.size=b0 at hx ⊢
 obtain ⟨x0,x1,x2,x3,x4,x5,x6,x7,x8,x9,x10,x11,x12,x13⟩:=hx.cells
 have HX:=Lib.hid hx
 clear hx
 have hk:=HK.out
 rw [hk] at x0
 by_cases hnum:n.num=0
 rotate_left
 · have en:(n.num != 0)=true:=by rw [bne_iff_ne];exact hnum
   have HR:=Lib.hid (show leafB n=false by unfold leafB;simp [hk,hnum])
   clear hnum
   clear hk
   go_wp2_with (fail)
   go_ret
   exact ⟨by rw [HR.out] <;> rfl,HB.out⟩
 rw [hnum] at x1
 by_cases htext:n.text=⟨#[]⟩
 rotate_left
 · have t0:¬ n.text.toList=[]:=by rw [← empty_list];exact text_ne _ _ htext
   have t1:n.text.toList.isEmpty=false:=by simpa using t0
   have HR:=Lib.hid (show leafB n=false by unfold leafB;simp [hk,hnum,htext])
   clear htext
   clear hnum
   clear hk
   go_wp2_with (fail)
   go_ret
   exact ⟨by rw [HR.out] <;> rfl,HB.out⟩
 have t0:=empty_list
 rw [htext] at x2
 cases hq2:noRf n.to
 · have HQto:=Lib.hid hq2
   have HR:=Lib.hid (show leafB n=false by unfold leafB;simp [hk,hnum,htext,hq2])
   clear hq2
   clear hnum
   clear htext
   clear hk
   go_wp2_with ((go_at_call 109;((with_reducible refine (HN2.out _).mono ?_);rintro e w2 ⟨rfl,h1⟩;rw [HQto.out];have HB2:=Lib.hid (HB.out.trans (h1.mono HB.out.size));have HX2:=Lib.hid (HX.out.below h1 HX.out.lt);clear x0 x1 x2 x3 x4 x5 x6 x7 x8 x9 x10 x11 x12 x13;obtain ⟨x0,x1,x2,x3,x4,x5,x6,x7,x8,x9,x10,x11,x12,x13⟩:=HX2.out.cells;rw [HK.out] at x0;clear h1)))
   go_ret
   exact ⟨by rw [HR.out] <;> rfl,HB2.out⟩
 have HQto:=Lib.hid hq2
 have HR:=Lib.hid (show leafB n=mayRf n.ref by unfold leafB;simp [hk,hnum,htext,hq2])
 clear hnum
 clear htext
 clear hq2
 clear hk
 go_wp2_with (first
  | (go_at_call 109;((with_reducible refine (HN2.out _).mono ?_);rintro e w2 ⟨rfl,h1⟩;rw [HQto.out];have HB2:=Lib.hid (HB.out.trans (h1.mono HB.out.size));have HX2:=Lib.hid (HX.out.below h1 HX.out.lt);clear x0 x1 x2 x3 x4 x5 x6 x7 x8 x9 x10 x11 x12 x13;obtain ⟨x0,x1,x2,x3,x4,x5,x6,x7,x8,x9,x10,x11,x12,x13⟩:=HX2.out.cells;rw [HK.out] at x0;clear h1))
  | (go_at_call 113;((with_reducible refine (refMay_any _ _ _ _ _ _ hr).mono ?_);rintro e wp ⟨rfl,h1⟩;have HBP:=Lib.hid (HB2.out.trans (h1.mono HB2.out.size));clear h1)))
 go_ret
 exact ⟨by rw [HR.out] <;> rfl,HBP.out⟩
set_option maxRecDepth 100000 in
set_option maxHeartbeats 2000000 in
theorem refLeaf_6 (n:Nd) (hk:n.kind=6) (_hs:n.text.size≤1000000) (hr:n.ref.sh.size≤1000000) (ht:n.to.sh.size≤1000000) (A:Option Addr) (m c:Nat) (w:World):Calls Tryz.prog 65 #[.agg #[.int .i64 n.kind,.int .i64 n.num,.string n.text,.string n.ref.sh,.int .i64 n.ref.c,.int .i64 n.ref.r,.bool n.ref.ac,.bool n.ref.ar,.string n.to.sh,.int .i64 n.to.c,.int .i64 n.to.r,.bool n.to.ac,.bool n.to.ar,.slice A m c]] w fun e w'=>e = .returned (.bool (leafB n))∧Below w.heap.size w w':=by
 have hx:NdAt (w.alloc (.cells #[.int .i64 n.kind,.int .i64 n.num,.string n.text,.string n.ref.sh,.int .i64 n.ref.c,.int .i64 n.ref.r,.bool n.ref.ac,.bool n.ref.ar,.string n.to.sh,.int .i64 n.to.c,.int .i64 n.to.r,.bool n.to.ac,.bool n.to.ar,.slice A m c] 61)) w.heap.size n (.slice A m c):=NdAt.new w n _
 have HB:=Lib.hid ((Below.refl w.heap.size w).alloc (Nat.le_refl _) (.cells #[.int .i64 n.kind,.int .i64 n.num,.string n.text,.string n.ref.sh,.int .i64 n.ref.c,.int .i64 n.ref.r,.bool n.ref.ac,.bool n.ref.ar,.string n.to.sh,.int .i64 n.to.c,.int .i64 n.to.r,.bool n.to.ac,.bool n.to.ar,.slice A m c] 61))
 have HN1:=Lib.hid (fun w=>refNoRef_any n.ref w)
 have HN2:=Lib.hid (fun w=>refNoRef_any n.to w)
 have HK:=Lib.hid hk
 clear hk
 go_enter Tryz.func65,Tryz.ntmps65
 go_upto_region 1 with (fail)
 generalize w.alloc (.cells #[.int .i64 n.kind,.int .i64 n.num,.string n.text,.string n.ref.sh,.int .i64 n.ref.c,.int .i64 n.ref.r,.bool n.ref.ac,.bool n.ref.ar,.string n.to.sh,.int .i64 n.to.c,.int .i64 n.to.r,.bool n.to.ac,.bool n.to.ar,.slice A m c] 61)=w1 at hx HB ⊢
 generalize hb0:w.heap.size=b0 at hx ⊢
 obtain ⟨x0,x1,x2,x3,x4,x5,x6,x7,x8,x9,x10,x11,x12,x13⟩:=hx.cells
 have HX:=Lib.hid hx
 clear hx
 have hk:=HK.out
 rw [hk] at x0
 by_cases hnum:n.num=0
 rotate_left
 · have en:(n.num != 0)=true:=by rw [bne_iff_ne];exact hnum
   have HR:=Lib.hid (show leafB n=false by unfold leafB;simp [hk,hnum])
   clear hnum
   clear hk
   go_wp2_with (fail)
   go_ret
   exact ⟨by rw [HR.out] <;> rfl,HB.out⟩
 rw [hnum] at x1
 by_cases htext:n.text=⟨#[]⟩
 rotate_left
 · have t0:¬ n.text.toList=[]:=by rw [← empty_list];exact text_ne _ _ htext
   have t1:n.text.toList.isEmpty=false:=by simpa using t0
   have HR:=Lib.hid (show leafB n=false by unfold leafB;simp [hk,hnum,htext])
   clear htext
   clear hnum
   clear hk
   go_wp2_with (fail)
   go_ret
   exact ⟨by rw [HR.out] <;> rfl,HB.out⟩
 have t0:=empty_list
 rw [htext] at x2
 cases q1:mayRf n.ref
 · have M1:=Lib.hid (show mayL (sb n.ref.sh) n.ref.c n.ref.r=false from q1)
   have HR:=Lib.hid (show leafB n=false by unfold leafB;simp [hk,hnum,htext,q1])
   clear q1
   clear hnum
   clear htext
   clear hk
   go_wp2_with ((go_at_call 113;((with_reducible refine (refMay_any n.ref.sh n.ref.c n.ref.r n.ref.ac n.ref.ar _ hr).mono ?_);rintro e w2 ⟨rfl,h1⟩;rw [M1.out];have HB2:=Lib.hid (HB.out.trans (h1.mono HB.out.size));have HX2:=Lib.hid (HX.out.below h1 HX.out.lt);clear x0 x1 x2 x3 x4 x5 x6 x7 x8 x9 x10 x11 x12 x13;obtain ⟨x0,x1,x2,x3,x4,x5,x6,x7,x8,x9,x10,x11,x12,x13⟩:=HX2.out.cells;rw [HK.out] at x0;clear h1)))
   go_ret
   exact ⟨by rw [HR.out] <;> rfl,HB2.out⟩
 have M1:=Lib.hid (show mayL (sb n.ref.sh) n.ref.c n.ref.r=true from q1)
 cases q2:mayRf n.to
 · have M2:=Lib.hid (show mayL (sb n.to.sh) n.to.c n.to.r=false from q2)
   have HR:=Lib.hid (show leafB n=false by unfold leafB;simp [hk,hnum,htext,q1,q2])
   clear q1 q2
   clear hnum
   clear htext
   clear hk
   go_wp2_with (first
    | (go_at_call 113;((with_reducible refine (refMay_any n.ref.sh n.ref.c n.ref.r n.ref.ac n.ref.ar _ hr).mono ?_);rintro e w2 ⟨rfl,h1⟩;rw [M1.out];have HB2:=Lib.hid (HB.out.trans (h1.mono HB.out.size));have HX2:=Lib.hid (HX.out.below h1 HX.out.lt);clear x0 x1 x2 x3 x4 x5 x6 x7 x8 x9 x10 x11 x12 x13;obtain ⟨x0,x1,x2,x3,x4,x5,x6,x7,x8,x9,x10,x11,x12,x13⟩:=HX2.out.cells;rw [HK.out] at x0;clear h1;clear M1))
    | (go_at_call 113;((with_reducible refine (refMay_any n.to.sh n.to.c n.to.r n.to.ac n.to.ar _ ht).mono ?_);rintro e w3 ⟨rfl,h1⟩;rw [M2.out];have HB3:=Lib.hid (HB2.out.trans (h1.mono HB2.out.size));have HX3:=Lib.hid (HX2.out.below h1 HX2.out.lt);clear x0 x1 x2 x3 x4 x5 x6 x7 x8 x9 x10 x11 x12 x13;obtain ⟨x0,x1,x2,x3,x4,x5,x6,x7,x8,x9,x10,x11,x12,x13⟩:=HX3.out.cells;rw [HK.out] at x0;clear h1)))
   go_ret
   exact ⟨by rw [HR.out] <;> rfl,HB3.out⟩
 have M2:=Lib.hid (show mayL (sb n.to.sh) n.to.c n.to.r=true from q2)
 have HR:=Lib.hid (show leafB n=spanB n.ref n.to by unfold leafB;simp [hk,hnum,htext,q1,q2])
 clear q1 q2
 clear hnum
 clear htext
 clear hk
 go_wp2_with (first
  | (go_at_call 113;((with_reducible refine (refMay_any n.ref.sh n.ref.c n.ref.r n.ref.ac n.ref.ar _ hr).mono ?_);rintro e w2 ⟨rfl,h1⟩;rw [M1.out];have HB2:=Lib.hid (HB.out.trans (h1.mono HB.out.size));have HX2:=Lib.hid (HX.out.below h1 HX.out.lt);clear x0 x1 x2 x3 x4 x5 x6 x7 x8 x9 x10 x11 x12 x13;obtain ⟨x0,x1,x2,x3,x4,x5,x6,x7,x8,x9,x10,x11,x12,x13⟩:=HX2.out.cells;rw [HK.out] at x0;clear h1;clear M1))
  | (go_at_call 113;((with_reducible refine (refMay_any n.to.sh n.to.c n.to.r n.to.ac n.to.ar _ ht).mono ?_);rintro e w3 ⟨rfl,h1⟩;rw [M2.out];have HB3:=Lib.hid (HB2.out.trans (h1.mono HB2.out.size));have HX3:=Lib.hid (HX2.out.below h1 HX2.out.lt);clear x0 x1 x2 x3 x4 x5 x6 x7 x8 x9 x10 x11 x12 x13;obtain ⟨x0,x1,x2,x3,x4,x5,x6,x7,x8,x9,x10,x11,x12,x13⟩:=HX3.out.cells;rw [HK.out] at x0;clear h1))
  | (go_at_call 114;((with_reducible refine (refSpan_any _ _ _ _ _ _ _ _ _ _ _).mono ?_);rintro e w4 ⟨rfl,h1⟩;have HB4:=Lib.hid (HB3.out.trans (h1.mono HB3.out.size));clear h1)))
 go_ret
 exact ⟨by rw [HR.out] <;> rfl,HB4.out⟩
set_option maxRecDepth 100000 in
set_option maxHeartbeats 2000000 in
theorem refLeaf_x (n:Nd) (k1:¬ n.kind=1) (k2:¬ n.kind=2) (k3:¬ n.kind=3) (k5:¬ n.kind=5) (k6:¬ n.kind=6) (k7:¬ n.kind=7) (_hs:n.text.size≤1000000) (_hr:n.ref.sh.size≤1000000) (_ht:n.to.sh.size≤1000000) (A:Option Addr) (m c:Nat) (w:World):Calls Tryz.prog 65 #[.agg #[.int .i64 n.kind,.int .i64 n.num,.string n.text,.string n.ref.sh,.int .i64 n.ref.c,.int .i64 n.ref.r,.bool n.ref.ac,.bool n.ref.ar,.string n.to.sh,.int .i64 n.to.c,.int .i64 n.to.r,.bool n.to.ac,.bool n.to.ar,.slice A m c]] w fun e w'=>e = .returned (.bool (leafB n))∧Below w.heap.size w w':=by
 have hx:NdAt (w.alloc (.cells #[.int .i64 n.kind,.int .i64 n.num,.string n.text,.string n.ref.sh,.int .i64 n.ref.c,.int .i64 n.ref.r,.bool n.ref.ac,.bool n.ref.ar,.string n.to.sh,.int .i64 n.to.c,.int .i64 n.to.r,.bool n.to.ac,.bool n.to.ar,.slice A m c] 61)) w.heap.size n (.slice A m c):=NdAt.new w n _
 have HB:=Lib.hid ((Below.refl w.heap.size w).alloc (Nat.le_refl _) (.cells #[.int .i64 n.kind,.int .i64 n.num,.string n.text,.string n.ref.sh,.int .i64 n.ref.c,.int .i64 n.ref.r,.bool n.ref.ac,.bool n.ref.ar,.string n.to.sh,.int .i64 n.to.c,.int .i64 n.to.r,.bool n.to.ac,.bool n.to.ar,.slice A m c] 61))
 have HN1:=Lib.hid (fun w=>refNoRef_any n.ref w)
 have HN2:=Lib.hid (fun w=>refNoRef_any n.to w)
 go_enter Tryz.func65,Tryz.ntmps65
 go_upto_region 1 with (fail)
 generalize w.alloc (.cells #[.int .i64 n.kind,.int .i64 n.num,.string n.text,.string n.ref.sh,.int .i64 n.ref.c,.int .i64 n.ref.r,.bool n.ref.ac,.bool n.ref.ar,.string n.to.sh,.int .i64 n.to.c,.int .i64 n.to.r,.bool n.to.ac,.bool n.to.ar,.slice A m c] 61)=w1 at hx HB ⊢
 generalize hb0:w.heap.size=b0 at hx ⊢
 obtain ⟨x0,x1,x2,x3,x4,x5,x6,x7,x8,x9,x10,x11,x12,x13⟩:=hx.cells
 have HX:=Lib.hid hx
 clear hx
 obtain ⟨kd,hkd⟩:∃ kd,n.kind=kd:=⟨_,rfl⟩
 rw [hkd] at x0
 have HK:=Lib.hid hkd
 have e1:(kd == 1)=false:=beq_eq_false_iff_ne.2 (by omega)
 have d1:(kd != 1)=true:=by rw [bne,e1];rfl
 have e2:(kd == 2)=false:=beq_eq_false_iff_ne.2 (by omega)
 have d2:(kd != 2)=true:=by rw [bne,e2];rfl
 have e3:(kd == 3)=false:=beq_eq_false_iff_ne.2 (by omega)
 have d3:(kd != 3)=true:=by rw [bne,e3];rfl
 have e5:(kd == 5)=false:=beq_eq_false_iff_ne.2 (by omega)
 have d5:(kd != 5)=true:=by rw [bne,e5];rfl
 have e6:(kd == 6)=false:=beq_eq_false_iff_ne.2 (by omega)
 have d6:(kd != 6)=true:=by rw [bne,e6];rfl
 have e7:(kd == 7)=false:=beq_eq_false_iff_ne.2 (by omega)
 have d7:(kd != 7)=true:=by rw [bne,e7];rfl
 by_cases hnum:n.num=0
 rotate_left
 · have en:(n.num != 0)=true:=by rw [bne_iff_ne];exact hnum
   have HR:=Lib.hid (show leafB n=false by unfold leafB;simp [k1,k2,k3,k5,k6,k7,hnum])
   clear hnum
   go_wp2_with (fail)
   go_ret
   exact ⟨by rw [HR.out] <;> rfl,HB.out⟩
 rw [hnum] at x1
 by_cases htext:n.text=⟨#[]⟩
 rotate_left
 · have t0:¬ n.text.toList=[]:=by rw [← empty_list];exact text_ne _ _ htext
   have t1:n.text.toList.isEmpty=false:=by simpa using t0
   have HR:=Lib.hid (show leafB n=false by unfold leafB;simp [k1,k2,k3,k5,k6,k7,hnum,htext])
   clear htext
   clear hnum
   go_wp2_with (fail)
   go_ret
   exact ⟨by rw [HR.out] <;> rfl,HB.out⟩
 have t0:=empty_list
 rw [htext] at x2
 cases hq1:noRf n.ref
 · have HQref:=Lib.hid hq1
   have HR:=Lib.hid (show leafB n=false by unfold leafB;simp [k1,k2,k3,k5,k6,k7,hnum,htext,hq1])
   clear hq1
   clear hnum
   clear htext
   go_wp2_with ((go_at_call 109;((with_reducible refine (HN1.out _).mono ?_);rintro e w2 ⟨rfl,h1⟩;rw [HQref.out];have HB2:=Lib.hid (HB.out.trans (h1.mono HB.out.size));have HX2:=Lib.hid (HX.out.below h1 HX.out.lt);clear x0 x1 x2 x3 x4 x5 x6 x7 x8 x9 x10 x11 x12 x13;obtain ⟨x0,x1,x2,x3,x4,x5,x6,x7,x8,x9,x10,x11,x12,x13⟩:=HX2.out.cells;rw [HK.out] at x0;clear h1)))
   go_ret
   exact ⟨by rw [HR.out] <;> rfl,HB2.out⟩
 have HQref:=Lib.hid hq1
 cases hq2:noRf n.to
 · have HQto:=Lib.hid hq2
   have HR:=Lib.hid (show leafB n=false by unfold leafB;simp [k1,k2,k3,k5,k6,k7,hnum,htext,hq1,hq2])
   clear hq2
   clear hnum
   clear htext
   clear hq1
   go_wp2_with (first
    | (go_at_call 109;((with_reducible refine (HN1.out _).mono ?_);rintro e w2 ⟨rfl,h1⟩;rw [HQref.out];have HB2:=Lib.hid (HB.out.trans (h1.mono HB.out.size));have HX2:=Lib.hid (HX.out.below h1 HX.out.lt);clear x0 x1 x2 x3 x4 x5 x6 x7 x8 x9 x10 x11 x12 x13;obtain ⟨x0,x1,x2,x3,x4,x5,x6,x7,x8,x9,x10,x11,x12,x13⟩:=HX2.out.cells;rw [HK.out] at x0;clear h1;clear HN1))
    | (go_at_call 109;((with_reducible refine (HN2.out _).mono ?_);rintro e w3 ⟨rfl,h1⟩;rw [HQto.out];have HB3:=Lib.hid (HB2.out.trans (h1.mono HB2.out.size));have HX3:=Lib.hid (HX2.out.below h1 HX2.out.lt);clear x0 x1 x2 x3 x4 x5 x6 x7 x8 x9 x10 x11 x12 x13;obtain ⟨x0,x1,x2,x3,x4,x5,x6,x7,x8,x9,x10,x11,x12,x13⟩:=HX3.out.cells;rw [HK.out] at x0;clear h1)))
   go_ret
   exact ⟨by rw [HR.out] <;> rfl,HB3.out⟩
 have HQto:=Lib.hid hq2
 have HR:=Lib.hid (show leafB n=true by unfold leafB;simp [k1,k2,k3,k5,k6,k7,hnum,htext,hq1,hq2])
 clear hnum
 clear htext
 clear hq1
 clear hq2
 go_wp2_with (first
  | (go_at_call 109;((with_reducible refine (HN1.out _).mono ?_);rintro e w2 ⟨rfl,h1⟩;rw [HQref.out];have HB2:=Lib.hid (HB.out.trans (h1.mono HB.out.size));have HX2:=Lib.hid (HX.out.below h1 HX.out.lt);clear x0 x1 x2 x3 x4 x5 x6 x7 x8 x9 x10 x11 x12 x13;obtain ⟨x0,x1,x2,x3,x4,x5,x6,x7,x8,x9,x10,x11,x12,x13⟩:=HX2.out.cells;rw [HK.out] at x0;clear h1;clear HN1))
  | (go_at_call 109;((with_reducible refine (HN2.out _).mono ?_);rintro e w3 ⟨rfl,h1⟩;rw [HQto.out];have HB3:=Lib.hid (HB2.out.trans (h1.mono HB2.out.size));have HX3:=Lib.hid (HX2.out.below h1 HX2.out.lt);clear x0 x1 x2 x3 x4 x5 x6 x7 x8 x9 x10 x11 x12 x13;obtain ⟨x0,x1,x2,x3,x4,x5,x6,x7,x8,x9,x10,x11,x12,x13⟩:=HX3.out.cells;rw [HK.out] at x0;clear h1)))
 go_ret
 exact ⟨by rw [HR.out] <;> rfl,HB3.out⟩
set_option maxRecDepth 100000 in
set_option maxHeartbeats 2000000 in
theorem refLeaf_7 (n:Nd) (hk:n.kind=7) (hs:n.text.size≤1000000) (_hr:n.ref.sh.size≤1000000) (_ht:n.to.sh.size≤1000000) (A:Option Addr) (m c:Nat) (w:World):Calls Tryz.prog 65 #[.agg #[.int .i64 n.kind,.int .i64 n.num,.string n.text,.string n.ref.sh,.int .i64 n.ref.c,.int .i64 n.ref.r,.bool n.ref.ac,.bool n.ref.ar,.string n.to.sh,.int .i64 n.to.c,.int .i64 n.to.r,.bool n.to.ac,.bool n.to.ar,.slice A m c]] w fun e w'=>e = .returned (.bool (leafB n))∧Below w.heap.size w w':=by
 have hx:NdAt (w.alloc (.cells #[.int .i64 n.kind,.int .i64 n.num,.string n.text,.string n.ref.sh,.int .i64 n.ref.c,.int .i64 n.ref.r,.bool n.ref.ac,.bool n.ref.ar,.string n.to.sh,.int .i64 n.to.c,.int .i64 n.to.r,.bool n.to.ac,.bool n.to.ar,.slice A m c] 61)) w.heap.size n (.slice A m c):=NdAt.new w n _
 have HB:=Lib.hid ((Below.refl w.heap.size w).alloc (Nat.le_refl _) (.cells #[.int .i64 n.kind,.int .i64 n.num,.string n.text,.string n.ref.sh,.int .i64 n.ref.c,.int .i64 n.ref.r,.bool n.ref.ac,.bool n.ref.ar,.string n.to.sh,.int .i64 n.to.c,.int .i64 n.to.r,.bool n.to.ac,.bool n.to.ar,.slice A m c] 61))
 have HN1:=Lib.hid (fun w=>refNoRef_any n.ref w)
 have HN2:=Lib.hid (fun w=>refNoRef_any n.to w)
 have HK:=Lib.hid hk
 clear hk
 go_enter Tryz.func65,Tryz.ntmps65
 go_upto_region 1 with (fail)
 generalize w.alloc (.cells #[.int .i64 n.kind,.int .i64 n.num,.string n.text,.string n.ref.sh,.int .i64 n.ref.c,.int .i64 n.ref.r,.bool n.ref.ac,.bool n.ref.ar,.string n.to.sh,.int .i64 n.to.c,.int .i64 n.to.r,.bool n.to.ac,.bool n.to.ar,.slice A m c] 61)=w1 at hx HB ⊢
 generalize hb0:w.heap.size=b0 at hx ⊢
 obtain ⟨x0,x1,x2,x3,x4,x5,x6,x7,x8,x9,x10,x11,x12,x13⟩:=hx.cells
 have HX:=Lib.hid hx
 clear hx
 have hk:=HK.out
 rw [hk] at x0
 by_cases hnum:n.num=0
 rotate_left
 · have en:(n.num != 0)=true:=by rw [bne_iff_ne];exact hnum
   have HR:=Lib.hid (show leafB n=false by unfold leafB;simp [hk,hnum])
   clear hnum
   clear hk
   go_wp2_with (fail)
   go_ret
   exact ⟨by rw [HR.out] <;> rfl,HB.out⟩
 rw [hnum] at x1
 cases hq1:noRf n.ref
 · have HQref:=Lib.hid hq1
   have HR:=Lib.hid (show leafB n=false by unfold leafB;simp [hk,hnum,hq1])
   clear hq1
   clear hnum
   clear hk
   go_wp2_with ((go_at_call 109;((with_reducible refine (HN1.out _).mono ?_);rintro e w2 ⟨rfl,h1⟩;rw [HQref.out];have HB2:=Lib.hid (HB.out.trans (h1.mono HB.out.size));have HX2:=Lib.hid (HX.out.below h1 HX.out.lt);clear x0 x1 x2 x3 x4 x5 x6 x7 x8 x9 x10 x11 x12 x13;obtain ⟨x0,x1,x2,x3,x4,x5,x6,x7,x8,x9,x10,x11,x12,x13⟩:=HX2.out.cells;rw [HK.out] at x0;clear h1)))
   go_ret
   exact ⟨by rw [HR.out] <;> rfl,HB2.out⟩
 have HQref:=Lib.hid hq1
 cases hq2:noRf n.to
 · have HQto:=Lib.hid hq2
   have HR:=Lib.hid (show leafB n=false by unfold leafB;simp [hk,hnum,hq1,hq2])
   clear hq2
   clear hnum
   clear hq1
   clear hk
   go_wp2_with (first
    | (go_at_call 109;((with_reducible refine (HN1.out _).mono ?_);rintro e w2 ⟨rfl,h1⟩;rw [HQref.out];have HB2:=Lib.hid (HB.out.trans (h1.mono HB.out.size));have HX2:=Lib.hid (HX.out.below h1 HX.out.lt);clear x0 x1 x2 x3 x4 x5 x6 x7 x8 x9 x10 x11 x12 x13;obtain ⟨x0,x1,x2,x3,x4,x5,x6,x7,x8,x9,x10,x11,x12,x13⟩:=HX2.out.cells;rw [HK.out] at x0;clear h1;clear HN1))
    | (go_at_call 109;((with_reducible refine (HN2.out _).mono ?_);rintro e w3 ⟨rfl,h1⟩;rw [HQto.out];have HB3:=Lib.hid (HB2.out.trans (h1.mono HB2.out.size));have HX3:=Lib.hid (HX2.out.below h1 HX2.out.lt);clear x0 x1 x2 x3 x4 x5 x6 x7 x8 x9 x10 x11 x12 x13;obtain ⟨x0,x1,x2,x3,x4,x5,x6,x7,x8,x9,x10,x11,x12,x13⟩:=HX3.out.cells;rw [HK.out] at x0;clear h1)))
   go_ret
   exact ⟨by rw [HR.out] <;> rfl,HB3.out⟩
 have HQto:=Lib.hid hq2
 obtain ⟨tx,htx⟩:∃ tx,n.text=tx:=⟨_,rfl⟩
 have HC:=Lib.hid (show leafB n=callB tx by unfold leafB;simp [hk,hnum,hq1,hq2];rw [htx])
 have HTX:=Lib.hid htx
 rw [htx] at hs
 clear hnum
 clear hq1
 clear hq2
 clear hk
 clear htx
 have q1:=word_eq tx ⟨#[84,82,85,69]⟩
 have q2:=word_eq tx ⟨#[70,65,76,83,69]⟩
 rw [list_true] at q1
 rw [list_false] at q2
 cases hq:readS tx with
 | some d =>
   have HSY:=Lib.hid (fun (e:Ending) (he:Says (sb tx) e)=>says_some hq he)
   have HQ:=Lib.hid hq
   clear hq
   go_upto_region 12 with (first
    | (go_at_call 109;((with_reducible refine (HN1.out _).mono ?_);rintro e w2 ⟨rfl,h1⟩;rw [HQref.out];have HB2:=Lib.hid (HB.out.trans (h1.mono HB.out.size));have HX2:=Lib.hid (HX.out.below h1 HX.out.lt);clear x0 x1 x2 x3 x4 x5 x6 x7 x8 x9 x10 x11 x12 x13;obtain ⟨x0,x1,x2,x3,x4,x5,x6,x7,x8,x9,x10,x11,x12,x13⟩:=HX2.out.cells;rw [HTX.out] at x2;rw [HK.out] at x0;clear h1;clear HN1))
    | (go_at_call 109;((with_reducible refine (HN2.out _).mono ?_);rintro e w3 ⟨rfl,h1⟩;rw [HQto.out];have HB3:=Lib.hid (HB2.out.trans (h1.mono HB2.out.size));have HX3:=Lib.hid (HX2.out.below h1 HX2.out.lt);clear x0 x1 x2 x3 x4 x5 x6 x7 x8 x9 x10 x11 x12 x13;obtain ⟨x0,x1,x2,x3,x4,x5,x6,x7,x8,x9,x10,x11,x12,x13⟩:=HX3.out.cells;rw [HTX.out] at x2;rw [HK.out] at x0;clear h1))
    | (go_at_call 111;((with_reducible refine (refRead_any tx _ hs).mono ?_);rintro e w4 ⟨h1,h2⟩;obtain rfl:=HSY.out e h1;clear h1;have HB4:=Lib.hid (HB3.out.trans (h2.mono HB3.out.size));have HX4:=Lib.hid (HX3.out.below h2 HX3.out.lt);clear h2)))
   have hB5:Below w4.heap.size w4 (w4.alloc (.cells #[.string d.sh,.int .i64 d.c,.int .i64 d.r,.bool d.ac,.bool d.ar] 59)):=(Below.refl _ _).alloc (Nat.le_refl _) _
   have HB5:=Lib.hid (HB4.out.trans (hB5.mono HB4.out.size))
   have HX5:=Lib.hid (HX4.out.below hB5 HX4.out.lt)
   clear hB5 x0 x1 x2 x3 x4 x5 x6 x7 x8 x9 x10 x11 x12 x13
   generalize w4.alloc (.cells #[.string d.sh,.int .i64 d.c,.int .i64 d.r,.bool d.ac,.bool d.ar] 59)=w5 at HB5 HX5 ⊢
   obtain ⟨x0,x1,x2,x3,x4,x5,x6,x7,x8,x9,x10,x11,x12,x13⟩:=HX5.out.cells
   rw [HTX.out] at x2
   cases hc:calledL (sb tx)
   · have HCL:=Lib.hid hc
     have HR:=Lib.hid (show leafB n=false by rw [HC.out];unfold callB;rw [HQ.out,hc];rfl)
     clear hc
     go_wp2_with ((go_at_call 112;((with_reducible refine (refCalled_any tx _ hs).mono ?_);rintro e wq ⟨rfl,rfl⟩;rw [HCL.out])))
     go_ret
     exact ⟨by rw [HR.out] <;> rfl,HB5.out⟩
   have HCL:=Lib.hid hc
   have HR:=Lib.hid (show leafB n=false by rw [HC.out];unfold callB;rw [HQ.out,hc];rfl)
   clear hc
   go_wp2_with ((go_at_call 112;((with_reducible refine (refCalled_any tx _ hs).mono ?_);rintro e wq ⟨rfl,rfl⟩;rw [HCL.out])))
   go_ret
   exact ⟨by rw [HR.out] <;> rfl,HB5.out⟩
 | none =>
   have HSY:=Lib.hid (fun (e:Ending) (he:Says (sb tx) e)=>says_none hq he)
   have HQ:=Lib.hid hq
   clear hq
   go_upto_region 12 with (first
    | (go_at_call 109;((with_reducible refine (HN1.out _).mono ?_);rintro e w2 ⟨rfl,h1⟩;rw [HQref.out];have HB2:=Lib.hid (HB.out.trans (h1.mono HB.out.size));have HX2:=Lib.hid (HX.out.below h1 HX.out.lt);clear x0 x1 x2 x3 x4 x5 x6 x7 x8 x9 x10 x11 x12 x13;obtain ⟨x0,x1,x2,x3,x4,x5,x6,x7,x8,x9,x10,x11,x12,x13⟩:=HX2.out.cells;rw [HTX.out] at x2;rw [HK.out] at x0;clear h1;clear HN1))
    | (go_at_call 109;((with_reducible refine (HN2.out _).mono ?_);rintro e w3 ⟨rfl,h1⟩;rw [HQto.out];have HB3:=Lib.hid (HB2.out.trans (h1.mono HB2.out.size));have HX3:=Lib.hid (HX2.out.below h1 HX2.out.lt);clear x0 x1 x2 x3 x4 x5 x6 x7 x8 x9 x10 x11 x12 x13;obtain ⟨x0,x1,x2,x3,x4,x5,x6,x7,x8,x9,x10,x11,x12,x13⟩:=HX3.out.cells;rw [HTX.out] at x2;rw [HK.out] at x0;clear h1))
    | (go_at_call 111;((with_reducible refine (refRead_any tx _ hs).mono ?_);rintro e w4 ⟨h1,h2⟩;obtain rfl:=HSY.out e h1;clear h1;have HB4:=Lib.hid (HB3.out.trans (h2.mono HB3.out.size));have HX4:=Lib.hid (HX3.out.below h2 HX3.out.lt);clear h2)))
   have hB5:Below w4.heap.size w4 (w4.alloc (.cells #[.string ⟨#[]⟩,.int .i64 0,.int .i64 0,.bool false,.bool false] 59)):=(Below.refl _ _).alloc (Nat.le_refl _) _
   have HB5:=Lib.hid (HB4.out.trans (hB5.mono HB4.out.size))
   have HX5:=Lib.hid (HX4.out.below hB5 HX4.out.lt)
   clear hB5 x0 x1 x2 x3 x4 x5 x6 x7 x8 x9 x10 x11 x12 x13
   generalize w4.alloc (.cells #[.string ⟨#[]⟩,.int .i64 0,.int .i64 0,.bool false,.bool false] 59)=w5 at HB5 HX5 ⊢
   obtain ⟨x0,x1,x2,x3,x4,x5,x6,x7,x8,x9,x10,x11,x12,x13⟩:=HX5.out.cells
   rw [HTX.out] at x2
   cases hc:calledL (sb tx)
   · have HCL:=Lib.hid hc
     have HR:=Lib.hid (show leafB n=false by rw [HC.out];unfold callB;rw [HQ.out,hc];rfl)
     clear hc
     go_wp2_with ((go_at_call 112;((with_reducible refine (refCalled_any tx _ hs).mono ?_);rintro e wq ⟨rfl,rfl⟩;rw [HCL.out])))
     go_ret
     exact ⟨by rw [HR.out] <;> rfl,HB5.out⟩
   have HCL:=Lib.hid hc
   by_cases g1:tx=⟨#[84,82,85,69]⟩
   · rw [decide_eq_true g1] at q1
     have q1n:(tx.toList != [84,82,85,69])=false:=by rw [bne,q1];rfl
     have HR:=Lib.hid (show leafB n=false by rw [HC.out];unfold callB;rw [HQ.out,hc,decide_eq_false (show ¬ ¬ tx=_ from fun h=>h g1)];rfl)
     clear hc g1
     go_wp2_with ((go_at_call 112;((with_reducible refine (refCalled_any tx _ hs).mono ?_);rintro e wq ⟨rfl,rfl⟩;rw [HCL.out])))
     go_ret
     exact ⟨by rw [HR.out] <;> rfl,HB5.out⟩
   rw [decide_eq_false g1] at q1
   have q1n:(tx.toList != [84,82,85,69])=true:=by rw [bne,q1];rfl
   by_cases g2:tx=⟨#[70,65,76,83,69]⟩
   · rw [decide_eq_true g2] at q2
     have q2n:(tx.toList != [70,65,76,83,69])=false:=by rw [bne,q2];rfl
     have HR:=Lib.hid (show leafB n=false by rw [HC.out];unfold callB;rw [HQ.out,hc,decide_eq_false (show ¬ ¬ tx=⟨#[70,65,76,83,69]⟩ from fun h=>h g2)];simp)
     clear hc g1 g2
     go_wp2_with ((go_at_call 112;((with_reducible refine (refCalled_any tx _ hs).mono ?_);rintro e wq ⟨rfl,rfl⟩;rw [HCL.out])))
     go_ret
     exact ⟨by rw [HR.out] <;> rfl,HB5.out⟩
   rw [decide_eq_false g2] at q2
   have q2n:(tx.toList != [70,65,76,83,69])=true:=by rw [bne,q2];rfl
   have HR:=Lib.hid (show leafB n=true by rw [HC.out];unfold callB;rw [HQ.out,hc,decide_eq_true g1,decide_eq_true g2];rfl)
   clear hc g1 g2
   go_wp2_with ((go_at_call 112;((with_reducible refine (refCalled_any tx _ hs).mono ?_);rintro e wq ⟨rfl,rfl⟩;rw [HCL.out])))
   go_ret
   exact ⟨by rw [HR.out] <;> rfl,HB5.out⟩
theorem refLeaf_any (n:Nd) (hs:n.text.size≤1000000) (hr:n.ref.sh.size≤1000000) (ht:n.to.sh.size≤1000000) (A:Option Addr) (m c:Nat) (w:World):Calls Tryz.prog 65 #[.agg #[.int .i64 n.kind,.int .i64 n.num,.string n.text,.string n.ref.sh,.int .i64 n.ref.c,.int .i64 n.ref.r,.bool n.ref.ac,.bool n.ref.ar,.string n.to.sh,.int .i64 n.to.c,.int .i64 n.to.r,.bool n.to.ac,.bool n.to.ar,.slice A m c]] w fun e w'=>e = .returned (.bool (leafB n))∧Below w.heap.size w w':=by
 by_cases h1:n.kind=1
 · exact refLeaf_1 n h1 hs hr ht A m c w
 by_cases h2:n.kind=2
 · exact refLeaf_2 n h2 hs hr ht A m c w
 by_cases h3:n.kind=3
 · exact refLeaf_3 n h3 hs hr ht A m c w
 by_cases h5:n.kind=5
 · exact refLeaf_5 n h5 hs hr ht A m c w
 by_cases h6:n.kind=6
 · exact refLeaf_6 n h6 hs hr ht A m c w
 by_cases h7:n.kind=7
 · exact refLeaf_7 n h7 hs hr ht A m c w
 exact refLeaf_x n h1 h2 h3 h5 h6 h7 hs hr ht A m c w
theorem nodeB_arms {n:Nd}:nodeB n=(leafB n&&(decide (armsN n.kind = -1)||decide (armsN n.kind=n.kids.length))):=rfl
theorem drop_take_at {st ks:List Int} {f j:Nat} {x:Int} (h:(st.drop f).take j=ks.take j) (hx:st[f+j]? = some x) (hy:ks[j]? = some x):(st.drop f).take (j+1)=ks.take (j+1) :=
 take_snoc h (by rw [List.getElem?_drop];exact hx) hy
theorem drop_ne {st ks:List Int} {f j:Nat} {x y:Int} (hx:st[f+j]? = some x) (hy:ks[j]? = some y) (h:¬ x=y):¬ st.drop f=ks:=by
 intro e
 have h1:(st.drop f)[j]? = some x:=by rw [List.getElem?_drop];exact hx
 rw [e,hy] at h1
 exact h (Option.some.inj h1).symm
set_option maxRecDepth 100000 in
set_option maxHeartbeats 16000000 in
theorem refTree_any (w:World) (v:Value) (vs:List (Nd × Value)) (h:SN w w.heap.size v vs) (hz:SZ vs):Calls Tryz.prog 35 #[v] w fun e w'=>e = .returned (.bool (treeB (vs.map (·.1))))∧Below w.heap.size w w':=by
 obtain ⟨⟨A,cap,rfl,hat⟩,hkid⟩:=h
 obtain ⟨hlen,hsz⟩:=hz
 obtain ⟨nl,hnl⟩:∃ nl,vs.length=nl:=⟨_,rfl⟩
 rw [hnl] at hlen ⊢
 have HAT:=Lib.hid hat;have HKID:=Lib.hid hkid;have HSZ:=Lib.hid hsz;have HNL:=Lib.hid hnl
 obtain ⟨eb,hEB,EL⟩:=Elem.kid
 have HEL:=Lib.hid EL
 clear hat hkid hsz hnl EL
 go_enter Tryz.func35,Tryz.ntmps35
 go_upto_region 3 with (fail)
 go_loopw [3,4] (fun rv iv wr=>∃ (i:Nat) (st:List Int) (rk:Value),i≤nl∧st.length≤i∧rk=rv∧iv = .int .i64 (i:Int)∧Hid (treeB (vs.map (·.1))=treeF st i ((vs.map (·.1)).drop i))∧Hid (Own (encInt .i64) 3 wr w.heap.size rk st)∧Hid (Below w.heap.size w wr))
  (fun _ iv _=>nl - (intOf iv).toNat)
 case atStart=>exact ⟨0,[],.slice none 0 0,Nat.zero_le _,Nat.le_refl _,rfl,rfl,Lib.hid rfl,Lib.hid (Own.nil _ _ _ _),Lib.hid (Below.refl _ _)⟩
 case round =>
  obtain ⟨i,st,rk,hi,hsi,rfl,rfl,HT,HO,HB⟩:=hrel
  by_cases hlt:i<nl
  · have hii : (i:Int)<(nl:Int):=by omega
    obtain ⟨⟨n,k⟩,hnk⟩:∃ q,vs[i]? = some q:=⟨_,List.getElem?_eq_getElem (by rw [HNL.out];exact hlt)⟩
    have hmem:=List.mem_of_getElem? hnk
    obtain ⟨hz1,hz2,hz3⟩:=HSZ.out _ hmem
    have HZ1:=Lib.hid hz1;have HZ2:=Lib.hid hz2;have HZ3:=Lib.hid hz3
    clear hz1 hz2 hz3
    have hski:SI w w.heap.size k n.kids:=HKID.out _ hmem
    obtain ⟨Ak,ck,hk,hkc,hkm,hkat⟩:=id hski
    obtain ⟨m,hm⟩:∃ m,n.kids.length=m:=⟨_,rfl⟩
    rw [hm] at hk hkc
    subst hk
    have hmm:m≤maxLen:=Nat.le_trans hkc hkm
    have hmx:m≤9223372036854775807:=by unfold maxLen at hmm;omega
    have HM:=Lib.hid hm
    have HKAT:=Lib.hid hkat
    have HD:=Lib.hid (show (vs.map (·.1)).drop i=n :: (vs.map (·.1)).drop (i+1) by
     have hl:i<(vs.map (·.1)).length:=by rw [List.length_map,HNL.out];exact hlt
     rw [List.drop_eq_getElem_cons hl]
     congr 1
     have h1:(vs.map (·.1))[i]? = some n:=by rw [List.getElem?_map,hnk];rfl
     rw [List.getElem?_eq_getElem hl] at h1;exact Option.some.inj h1)
    have HF0:=Lib.hid (show nodeB n=false→treeB (vs.map (·.1))=false from fun e=>by rw [HT.out,HD.out,treeF_cons,e,Bool.false_and])
    rcases HAT.out with e | ⟨pb,po,rfl,hpb,hcells⟩
    · exfalso;rw [e] at hnk;simp at hnk
    have hcell:=hcells i n _ hnk
    have k0:wr.cell? ⟨pb,po+i*14,none⟩=some (.int .i64 n.kind):=(HB.out.cell (p:=⟨pb,po+i*14,none⟩) hpb).trans (hcell 0 (by omega))
    have k1:wr.cell? ⟨pb,po+i*14+1,none⟩=some (.int .i64 n.num):=(HB.out.cell (p:=⟨pb,po+i*14+1,none⟩) hpb).trans (hcell 1 (by omega))
    have k2:wr.cell? ⟨pb,po+i*14+2,none⟩=some (.string n.text):=(HB.out.cell (p:=⟨pb,po+i*14+2,none⟩) hpb).trans (hcell 2 (by omega))
    have k3:wr.cell? ⟨pb,po+i*14+3,none⟩=some (.string n.ref.sh):=(HB.out.cell (p:=⟨pb,po+i*14+3,none⟩) hpb).trans (hcell 3 (by omega))
    have k4:wr.cell? ⟨pb,po+i*14+4,none⟩=some (.int .i64 n.ref.c):=(HB.out.cell (p:=⟨pb,po+i*14+4,none⟩) hpb).trans (hcell 4 (by omega))
    have k5:wr.cell? ⟨pb,po+i*14+5,none⟩=some (.int .i64 n.ref.r):=(HB.out.cell (p:=⟨pb,po+i*14+5,none⟩) hpb).trans (hcell 5 (by omega))
    have k6:wr.cell? ⟨pb,po+i*14+6,none⟩=some (.bool n.ref.ac):=(HB.out.cell (p:=⟨pb,po+i*14+6,none⟩) hpb).trans (hcell 6 (by omega))
    have k7:wr.cell? ⟨pb,po+i*14+7,none⟩=some (.bool n.ref.ar):=(HB.out.cell (p:=⟨pb,po+i*14+7,none⟩) hpb).trans (hcell 7 (by omega))
    have k8:wr.cell? ⟨pb,po+i*14+8,none⟩=some (.string n.to.sh):=(HB.out.cell (p:=⟨pb,po+i*14+8,none⟩) hpb).trans (hcell 8 (by omega))
    have k9:wr.cell? ⟨pb,po+i*14+9,none⟩=some (.int .i64 n.to.c):=(HB.out.cell (p:=⟨pb,po+i*14+9,none⟩) hpb).trans (hcell 9 (by omega))
    have k10:wr.cell? ⟨pb,po+i*14+10,none⟩=some (.int .i64 n.to.r):=(HB.out.cell (p:=⟨pb,po+i*14+10,none⟩) hpb).trans (hcell 10 (by omega))
    have k11:wr.cell? ⟨pb,po+i*14+11,none⟩=some (.bool n.to.ac):=(HB.out.cell (p:=⟨pb,po+i*14+11,none⟩) hpb).trans (hcell 11 (by omega))
    have k12:wr.cell? ⟨pb,po+i*14+12,none⟩=some (.bool n.to.ar):=(HB.out.cell (p:=⟨pb,po+i*14+12,none⟩) hpb).trans (hcell 12 (by omega))
    have k13:wr.cell? ⟨pb,po+i*14+13,none⟩=some (.slice Ak m ck):=(HB.out.cell (p:=⟨pb,po+i*14+13,none⟩) hpb).trans (hcell 13 (by omega))
    clear hcell hcells hnk hmem hski hkat hm hkc hkm hmm
    have hL:st.length≤1000:=by omega
    have hB3:Below wr.heap.size wr (wr.alloc (.cells #[.int .i64 n.kind,.int .i64 n.num,.string n.text,.string n.ref.sh,.int .i64 n.ref.c,.int .i64 n.ref.r,.bool n.ref.ac,.bool n.ref.ar,.string n.to.sh,.int .i64 n.to.c,.int .i64 n.to.r,.bool n.to.ac,.bool n.to.ar,.slice Ak m ck] 61)):=(Below.refl _ _).alloc (Nat.le_refl _) _
    have HN3:NdAt (wr.alloc (.cells #[.int .i64 n.kind,.int .i64 n.num,.string n.text,.string n.ref.sh,.int .i64 n.ref.c,.int .i64 n.ref.r,.bool n.ref.ac,.bool n.ref.ar,.string n.to.sh,.int .i64 n.to.c,.int .i64 n.to.r,.bool n.to.ac,.bool n.to.ar,.slice Ak m ck] 61)) wr.heap.size n (.slice Ak m ck):=NdAt.new wr n _
    have HB3:=Lib.hid (HB.out.trans (hB3.mono HB.out.size))
    have HO3:=Lib.hid (HO.out.alloc (.cells #[.int .i64 n.kind,.int .i64 n.num,.string n.text,.string n.ref.sh,.int .i64 n.ref.c,.int .i64 n.ref.r,.bool n.ref.ac,.bool n.ref.ar,.string n.to.sh,.int .i64 n.to.c,.int .i64 n.to.r,.bool n.to.ac,.bool n.to.ar,.slice Ak m ck] 61))
    clear hB3
    go_upto_region 6 with (fail)
    generalize hb3:wr.heap.size=b3 at HN3 ⊢
    generalize wr.alloc (.cells #[.int .i64 n.kind,.int .i64 n.num,.string n.text,.string n.ref.sh,.int .i64 n.ref.c,.int .i64 n.ref.r,.bool n.ref.ac,.bool n.ref.ar,.string n.to.sh,.int .i64 n.to.c,.int .i64 n.to.r,.bool n.to.ac,.bool n.to.ar,.slice Ak m ck] 61)=w3 at HN3 HB3 HO3 ⊢
    clear hb3 k0 k1 k2 k3 k4 k5 k6 k7 k8 k9 k10 k11 k12 k13 HO
    obtain ⟨x0,x1,x2,x3,x4,x5,x6,x7,x8,x9,x10,x11,x12,x13⟩:=HN3.cells
    have HN3:=Lib.hid HN3
    obtain ⟨a,ha⟩:∃ a,armsN n.kind=a:=⟨_,rfl⟩
    have HAR:=Lib.hid (show ∀ w,Calls Tryz.prog 64 #[.int .i64 n.kind] w fun e w'=>e = .returned (.int .i64 a)∧w=w' from fun w=>by rw [← ha];exact refArms_any _ w)
    have HNB:=Lib.hid (show nodeB n=(leafB n&&(decide (a = -1)||decide (a=(m:Int)))) by rw [nodeB_arms,ha,HM.out])
    have har:a = -1∨a = -2∨a=0∨a=1∨a=2:=by
     rw [← ha];unfold armsN
     split
     · omega
     split
     · omega
     split
     · omega
     split <;> omega
    clear ha
    have key:(a = -1∨a=(m:Int))∨(¬ a = -1∧¬ a=(m:Int)):=by omega
    rcases key with key | ⟨ka,kb⟩
    rotate_left
    · have ea:(a == -1)=false:=beq_eq_false_iff_ne.2 ka
      have HT2:=Lib.hid (show treeB (vs.map (·.1))=false from HF0.out (by rw [HNB.out,decide_eq_false ka,decide_eq_false kb,Bool.or_self,Bool.and_false]))
      by_cases h0:a<0
      · clear ka kb har
        go_wp2_with (go_at_call 64;((with_reducible refine (HAR.out _).mono ?_);rintro e w4 ⟨rfl,rfl⟩))
        go_ret
        exact ⟨by rw [HT2.out] <;> rfl,HB3.out⟩
      · have hne:(a != (m:Int))=true:=by rw [bne_iff_ne];exact kb
        clear ka kb har
        go_wp2_with (go_at_call 64;((with_reducible refine (HAR.out _).mono ?_);rintro e w4 ⟨rfl,rfl⟩))
        go_ret
        exact ⟨by rw [HT2.out] <;> rfl,HB3.out⟩
    have HNB2:=Lib.hid (show nodeB n=leafB n by
     rw [HNB.out]
     rcases key with e | e
     · rw [decide_eq_true e,Bool.true_or,Bool.and_true]
     · rw [decide_eq_true e,Bool.or_true,Bool.and_true])
    have hm0:¬ (m:Int)<0:=by omega
    have hmb:((m:Int) != (m:Int))=false:=by simp
    have arms2:(∃ ea:(a == -1)=true,True)∨(∃ ea:(a == -1)=false,a=(m:Int)):=by
     by_cases e:a = -1
     · exact .inl ⟨beq_iff_eq.2 e,trivial⟩
     · exact .inr ⟨beq_eq_false_iff_ne.2 e,by omega⟩
    clear key HNB har
    by_cases hml:m≤st.length
    rotate_left
    · have HT2:=Lib.hid (show treeB (vs.map (·.1))=false by rw [HT.out,HD.out,treeF_cons,HM.out,decide_eq_false hml,Bool.false_and,Bool.and_false])
      have hmg:(st.length:Int)<(m:Int):=by omega
      rcases HO3.out.shape with ⟨rfl,hst⟩ | ⟨rg,rcap,rfl,hrg,hrl,hrc,hrm⟩
      · have HST:=Lib.hid hst
        have hmg:0<(m:Int):=by rw [hst] at hml;simp at hml;omega
        have hmg2:0<m:=by omega
        clear hml hst
        rcases arms2 with ⟨ea, -⟩ | ⟨ea,rfl⟩
        all_goals
         go_wp2_with (go_at_call 64;((with_reducible refine (HAR.out _).mono ?_);rintro e w4 ⟨rfl,rfl⟩))
         go_ret
         exact ⟨by rw [HT2.out] <;> rfl,HB3.out⟩
      · have hmg2:st.length<m:=by omega
        clear hml
        rcases arms2 with ⟨ea, -⟩ | ⟨ea,rfl⟩
        all_goals
         go_wp2_with (go_at_call 64;((with_reducible refine (HAR.out _).mono ?_);rintro e w4 ⟨rfl,rfl⟩))
         go_ret
         exact ⟨by rw [HT2.out] <;> rfl,HB3.out⟩
    have hmg:¬ (st.length:Int)<(m:Int):=by omega
    have hmg2:¬ st.length<m:=by omega
    have HLE:=Lib.hid (show ∀ w,Calls Tryz.prog 65 #[.agg #[.int .i64 n.kind,.int .i64 n.num,.string n.text,.string n.ref.sh,.int .i64 n.ref.c,.int .i64 n.ref.r,.bool n.ref.ac,.bool n.ref.ar,.string n.to.sh,.int .i64 n.to.c,.int .i64 n.to.r,.bool n.to.ac,.bool n.to.ar,.slice Ak m ck]] w fun e w'=>e = .returned (.bool (leafB n))∧Below w.heap.size w w' from fun w=>refLeaf_any n HZ1.out HZ2.out HZ3.out Ak m ck w)
    cases hlf:leafB n
    · have HT2:=Lib.hid (show treeB (vs.map (·.1))=false from HF0.out (by rw [HNB2.out,hlf]))
      rw [hlf] at HLE
      clear hlf
      rcases HO3.out.shape with ⟨rfl,hst⟩ | ⟨rg,rcap,rfl,hrg,hrl,hrc,hrm⟩
      · have hmg2:¬ 0<m:=by rw [hst] at hml;simp at hml;omega
        have hmg:¬ 0<(m:Int):=by omega
        clear hml hst
        rcases arms2 with ⟨ea, -⟩ | ⟨ea,rfl⟩
        all_goals
         go_wp2_with (first
          | (go_at_call 64;((with_reducible refine (HAR.out _).mono ?_);rintro e w4 ⟨rfl,rfl⟩))
          | (go_at_call 65;((with_reducible refine (HLE.out _).mono ?_);rintro e w5 ⟨rfl,h1⟩;have HB5:=Lib.hid (HB3.out.trans (h1.mono HB3.out.size));clear h1)))
         go_ret
         exact ⟨by rw [HT2.out] <;> rfl,HB5.out⟩
      · clear hml
        rcases arms2 with ⟨ea, -⟩ | ⟨ea,rfl⟩
        all_goals
         go_wp2_with (first
          | (go_at_call 64;((with_reducible refine (HAR.out _).mono ?_);rintro e w4 ⟨rfl,rfl⟩))
          | (go_at_call 65;((with_reducible refine (HLE.out _).mono ?_);rintro e w5 ⟨rfl,h1⟩;have HB5:=Lib.hid (HB3.out.trans (h1.mono HB3.out.size));clear h1)))
         go_ret
         exact ⟨by rw [HT2.out] <;> rfl,HB5.out⟩
    rw [hlf] at HLE
    have HNT:=Lib.hid (show nodeB n=true by rw [HNB2.out,hlf])
    clear hlf HF0 HNB2
    have HSK:=Lib.hid (show n.kids=[]∨∃ kb ko,Ak=some ⟨kb,ko,none⟩∧∀ (j:Nat) (x:Int),n.kids[j]? = some x→w3.cell? ⟨kb,ko+j,none⟩=some (.int .i64 x) from by
     rcases HKAT.out with e | ⟨kb,ko,e1,e2,e3⟩
     · exact .inl e
     · exact .inr ⟨kb,ko,e1,fun j x hj=>(HB3.out.cell (p:=⟨kb,ko+j,none⟩) e2).trans (e3 j x hj)⟩)
    have hkbl:=HKAT.out
    have HKL:=Lib.hid (show ∀ kb ko,Ak=some ⟨kb,ko,none⟩→n.kids≠[]→kb<w3.heap.size from by
     intro kb ko e hne
     rcases HKAT.out with e0 | ⟨kb',ko',e1,e2,e3⟩
     · exact absurd e0 hne
     · rw [e1] at e;injection e with e;injection e with e _ _
       have:=HB3.out.size;omega)
    clear hkbl
    obtain ⟨f,hf⟩:∃ f,st.length - m=f:=⟨_,rfl⟩
    have HFX:=Lib.hid (show treeB (vs.map (·.1))=(decide (st.drop f=n.kids)&&treeF (st.take f++[(i:Int)]) (i+1) ((vs.map (·.1)).drop (i+1))) by
     rw [HT.out,HD.out,treeF_cons,HNT.out,HM.out,decide_eq_true hml,hf,Bool.true_and,Bool.true_and])
    have hfm:f+m=st.length:=by omega
    rcases HO3.out.shape with ⟨rfl,hst⟩ | ⟨rg,rcap,rfl,hrg,hrl,hrc,hrm⟩
    · have hm00:m=0:=by rw [hst] at hml;simp at hml;omega
      have hmg2:¬ 0<m:=by omega
      have hmg:¬ 0<(m:Int):=by omega
      have HST:=Lib.hid hst
      have HKN:=Lib.hid (show n.kids=[] from List.eq_nil_of_length_eq_zero (by rw [HM.out,hm00]))
      have HF00:=Lib.hid (show f=0 by rw [hst] at hfm;simp at hfm;omega)
      have HM00:=Lib.hid hm00
      clear hml hst hf hfm hm00
      rcases arms2 with ⟨ea, -⟩ | ⟨ea,rfl⟩
      all_goals
       go_upto_region 12 with (first
        | (go_at_call 64;((with_reducible refine (HAR.out _).mono ?_);rintro e w4 ⟨rfl,rfl⟩))
        | (go_at_call 65;((with_reducible refine (HLE.out _).mono ?_);rintro e w5 ⟨rfl,h1⟩;have HB5:=Lib.hid (HB3.out.trans (h1.mono HB3.out.size));clear h1)))
       go_loopw [7] (fun jv wq=>jv = .int .i64 0∧w5=wq) (fun _ _=>0)
       case atStart=>exact ⟨rfl,rfl⟩
       case round =>
        obtain ⟨rfl,rfl⟩:=hrel
        have hmz:m=0:=HM00.out
        subst hmz
        go_wp2_with (at_builtin;refine wpList_app_full HEL.out (encInt .i64) rfl (.tmp 75) (.tmp 77) rfl none 0 0 ([]:List Int) rfl (fun _=>⟨rfl,rfl⟩) rfl (fun b e=>by cases e) ⟨w5.heap.size,0,none⟩ 1 1 [(i:Int)] rfl rfl ?_ (by omega) ?_ ?_ ?_;exact cells_new _ _ _ rfl;exact Nat.le_trans (Nat.mul_le_mul_left _ hEB) (by omega);(unfold maxLen;omega);intro v' w7 h1 h2;have HO7:=Lib.hid h1;have HB7:=Lib.hid h2;clear h1 h2)
        go_roundw
        case rel =>
         refine ⟨i+1,[(i:Int)],v',by omega,by simp,rfl,by go_num,Lib.hid ?_,Lib.hid (HO7.out.mono ?_),Lib.hid ?_⟩
         · rw [HFX.out,HF00.out,HST.out,HKN.out];rfl
         · simp;have:=HB5.out.size;omega
         · exact (HB5.out.trans ((Below.refl _ _).alloc HB5.out.size _)).trans (HB7.out.mono (by simp;have:=HB5.out.size;omega))
        case measure=>simp [intOf];omega
    · have hw1 : -9223372036854775808≤(st.length:Int) - (m:Int):=by omega
      have hw2:(st.length:Int) - (m:Int)≤9223372036854775807:=by omega
      have hfi:(st.length:Int) - (m:Int)=(f:Int):=by omega
      have HFI:=Lib.hid hfi
      have HRL:=Lib.hid hrl
      clear hml hf hfi hrl
      rcases arms2 with ⟨ea, -⟩ | ⟨ea,rfl⟩
      all_goals
       go_upto_region 12 with (first
        | (go_at_call 64;((with_reducible refine (HAR.out _).mono ?_);rintro e w4 ⟨rfl,rfl⟩))
        | (go_at_call 65;((with_reducible refine (HLE.out _).mono ?_);rintro e w5 ⟨rfl,h1⟩;have HB5:=Lib.hid (HB3.out.trans (h1.mono HB3.out.size));have HO5:=Lib.hid (HO3.out.below h1 (Nat.le_refl _));have HN5:=Lib.hid (HN3.out.below h1 HN3.out.lt);have HBL5:=Lib.hid h1;clear h1)))
       clear x0 x1 x2 x3 x4 x5 x6 x7 x8 x9 x10 x11 x12 x13
       obtain ⟨x0,x1,x2,x3,x4,x5,x6,x7,x8,x9,x10,x11,x12,x13⟩:=HN5.out.cells
       clear x0 x1 x2 x3 x4 x5 x6 x7 x8 x9 x10 x11 x12
       go_loopw [7] (fun jv wq=>∃ j q:Nat,j≤m∧jv = .int .i64 (j:Int)∧Hid ((st.drop f).take j=n.kids.take j)∧w5.drewN q=wq) (fun jv _=>m - (intOf jv).toNat)
       case atStart=>exact ⟨0,0,Nat.zero_le _,rfl,Lib.hid rfl,rfl⟩
       case round =>
        obtain ⟨j,q,hj,rfl,HTK,rfl⟩:=hrel
        by_cases hjm:j<m
        · have hji:(j:Int)<(m:Int):=by omega
          obtain ⟨x,hx⟩:∃ x,st[f+j]? = some x:=⟨_,List.getElem?_eq_getElem (by omega)⟩
          obtain ⟨y,hy⟩:∃ y,n.kids[j]? = some y:=⟨_,List.getElem?_eq_getElem (by rw [HM.out];exact hjm)⟩
          rcases HSK.out with e | ⟨kb,ko,rfl,hkc⟩
          · exfalso;rw [e] at hy;simp at hy
          have k1:=own_at HO5.out (f+j) x hx
          have k2:w5.cell? ⟨kb,ko+j,none⟩=some (.int .i64 y):=(HBL5.out.cell (p:=⟨kb,ko+j,none⟩) (HKL.out kb ko rfl (by intro e;rw [e] at hy;simp at hy))).trans (hkc j y hy)
          have HX:=Lib.hid hx;have HY:=Lib.hid hy
          have hz1 : -9223372036854775808≤(f:Int)+(j:Int):=by omega
          have hz2:(f:Int)+(j:Int)≤9223372036854775807:=by omega
          have hz3:(0:Int)≤(f:Int)+(j:Int):=by omega
          have hz4:(f:Int)+(j:Int)<(st.length:Int):=by omega
          clear hkc hx hy
          have hfi:=HFI.out
          by_cases hxy:x=y
          · have ex:(x != y)=false:=by rw [hxy];simp
            have HT2:=Lib.hid (drop_take_at HTK.out HX.out (by rw [hxy];exact HY.out))
            clear hxy
            have W1:IntKind.i64.wrap ((st.length:Int) - (m:Int))=(f:Int):=by rw [IntKind.wrap_i64];omega
            have W2:IntKind.i64.wrap ((f:Int)+(j:Int))=(f:Int)+(j:Int):=by rw [IntKind.wrap_i64];omega
            have W3:((f:Int)+(j:Int)).toNat=f+j:=by omega
            go_wp2_with fail
            go_quiet (fail)
            clear W1 W2 W3
            go_wp2_with fail
            go_roundw
            case rel=>exact ⟨j+1,_,by omega,by go_num,HT2,by first | rfl | trivial⟩
            case measure=>simp [intOf];omega
          · have ex:(x != y)=true:=by rw [bne_iff_ne];exact hxy
            have HR:=Lib.hid (show treeB (vs.map (·.1))=false by rw [HFX.out,decide_eq_false (drop_ne HX.out HY.out hxy),Bool.false_and])
            clear hxy
            have W1:IntKind.i64.wrap ((st.length:Int) - (m:Int))=(f:Int):=by rw [IntKind.wrap_i64];omega
            have W2:IntKind.i64.wrap ((f:Int)+(j:Int))=(f:Int)+(j:Int):=by rw [IntKind.wrap_i64];omega
            have W3:((f:Int)+(j:Int)).toNat=f+j:=by omega
            go_wp2_with fail
            go_quiet (fail)
            clear W1 W2 W3
            go_wp2_with fail
            go_ret
            exact ⟨by rw [HR.out] <;> rfl,drew_below (drew_below HB5.out q) nq⟩
        · have hji:¬ (j:Int)<(m:Int):=by omega
          have hjm2:j=m:=by omega
          have HEQ:=Lib.hid (show st.drop f=n.kids by
           have h1:=HTK.out
           rw [List.take_of_length_le (by rw [List.length_drop];omega),List.take_of_length_le (by rw [HM.out];omega)] at h1
           exact h1)
          have hfi:=HFI.out
          have hfL:f≤st.length:=by omega
          have hn0:(0:Int)≤(f:Int):=by omega
          have hn1:(f:Int)≤(rcap:Int):=by omega
          have hn2:f≤rcap:=by omega
          go_wp2_with (at_builtin;refine wpList_app_full HEL.out (encInt .i64) rfl (.tmp 75) (.tmp 77) rfl (some ⟨rg,0,none⟩) f f (st.take f) ?_ (fun h=>by cases h) ?_ ?_ ⟨w5.heap.size,0,none⟩ 1 1 [(i:Int)] rfl rfl ?_ (by omega) ?_ ?_ ?_;rfl;(rw [List.length_take];omega);(intro b e;injection e with e;subst e;intro j' u hu;rw [Addr.add_mid,Nat.zero_add];exact Own.cells (((own_take HO5.out f hfL).drewN q).alloc _) j' u hu);exact cells_new _ _ _ rfl;exact Nat.le_trans (Nat.mul_le_mul_left _ hEB) (by omega);(unfold maxLen;omega);intro v' w7 h1 h2;have HO7:=Lib.hid h1;have HB7:=Lib.hid h2;clear h1 h2)
          go_roundw
          case rel =>
           refine ⟨i+1,st.take f++[(i:Int)],v',by omega,by simp;omega,rfl,by go_num,Lib.hid ?_,Lib.hid (HO7.out.mono ?_),Lib.hid ?_⟩
           · rw [HFX.out,decide_eq_true HEQ.out,Bool.true_and]
           · simp;have:=HB5.out.size;omega
           · exact (Below.alloc (drew_below HB5.out q) (drew_below HB5.out q).size _).trans (HB7.out.mono (by simp;have:=HB5.out.size;omega))
          case measure=>simp [intOf];omega
  · have hii:¬ (i:Int)<(nl:Int):=by omega
    have hin:i=nl:=by omega
    have HT2:=Lib.hid (show treeB (vs.map (·.1))=decide (st.length=1) by
     rw [HT.out,List.drop_of_length_le (by rw [List.length_map,HNL.out];omega)];rfl)
    rcases HO.out.shape with ⟨rfl,hst⟩ | ⟨rg,rcap,rfl, -⟩
    · rw [hst] at HT2
      go_wp2_with fail
      go_ret
      exact ⟨by rw [HT2.out] <;> rfl,HB.out⟩
    · by_cases h1:st.length=1
      · have h1i:((st.length:Int) == 1)=true:=by rw [beq_iff_eq];omega
        rw [decide_eq_true h1] at HT2
        clear h1
        go_wp2_with fail
        go_ret
        exact ⟨by rw [HT2.out] <;> rfl,HB.out⟩
      · have h1i:((st.length:Int) == 1)=false:=by rw [beq_eq_false_iff_ne];omega
        rw [decide_eq_false h1] at HT2
        clear h1
        go_wp2_with fail
        go_ret
        exact ⟨by rw [HT2.out] <;> rfl,HB.out⟩
set_option maxRecDepth 100000 in
set_option maxHeartbeats 1600000 in
theorem refRank_any (k:Int) (w:World):Calls Tryz.prog 69 #[.int .i64 k] w fun e w'=>e = .returned (.int .i64 ((rankL k:Nat)+1:Int))∧w=w':=by
 have fin:∀ r:Nat,rankL k=r→(Calls Tryz.prog 69 #[.int .i64 k] w fun e w'=>e = .returned (.int .i64 ((r:Int)+1))∧w=w')→Calls Tryz.prog 69 #[.int .i64 k] w fun e w'=>e = .returned (.int .i64 ((rankL k:Nat)+1:Int))∧w=w':=fun r h1 h2=>by rw [h1];exact h2
 by_cases h:9≤k∧k≤14
 · obtain ⟨h1,h2⟩:=h
   refine fin 0 (by unfold rankL;rw [if_pos ⟨h1,h2⟩]) ?_
   clear fin
   go_enter Tryz.func69,Tryz.ntmps69
   go_wp2_with fail
   go_ret
   exact ⟨rfl,rfl⟩
 by_cases h15:k=15
 · refine fin 1 (by subst h15;rfl) ?_
   clear fin
   subst h15
   go_enter Tryz.func69,Tryz.ntmps69
   go_wp2_with fail
   go_ret
   exact ⟨rfl,rfl⟩
 by_cases h16:k=16
 · refine fin 2 (by subst h16;rfl) ?_
   clear fin
   subst h16
   go_enter Tryz.func69,Tryz.ntmps69
   go_wp2_with fail
   go_ret
   exact ⟨rfl,rfl⟩
 by_cases h17:k=17
 · refine fin 2 (by subst h17;rfl) ?_
   clear fin
   subst h17
   go_enter Tryz.func69,Tryz.ntmps69
   go_wp2_with fail
   go_ret
   exact ⟨rfl,rfl⟩
 by_cases h18:k=18
 · refine fin 3 (by subst h18;rfl) ?_
   clear fin
   subst h18
   go_enter Tryz.func69,Tryz.ntmps69
   go_wp2_with fail
   go_ret
   exact ⟨rfl,rfl⟩
 by_cases h19:k=19
 · refine fin 3 (by subst h19;rfl) ?_
   clear fin
   subst h19
   go_enter Tryz.func69,Tryz.ntmps69
   go_wp2_with fail
   go_ret
   exact ⟨rfl,rfl⟩
 by_cases h8:k=8
 · refine fin 4 (by subst h8;rfl) ?_
   clear fin
   subst h8
   go_enter Tryz.func69,Tryz.ntmps69
   go_wp2_with fail
   go_ret
   exact ⟨rfl,rfl⟩
 refine fin 5 (by unfold rankL;rw [if_neg h,if_neg h15,if_neg (by omega),if_neg (by omega),if_neg h8]) ?_
 have e15:(k == 15)=false:=beq_eq_false_iff_ne.2 h15
 have e16:(k == 16)=false:=beq_eq_false_iff_ne.2 h16
 have e17:(k == 17)=false:=beq_eq_false_iff_ne.2 h17
 have e18:(k == 18)=false:=beq_eq_false_iff_ne.2 h18
 have e19:(k == 19)=false:=beq_eq_false_iff_ne.2 h19
 have e8:(k == 8)=false:=beq_eq_false_iff_ne.2 h8
 clear fin h15 h16 h17 h18 h19 h8
 by_cases h9:9≤k
 · have h14:¬ k≤14:=by omega
   clear h
   go_enter Tryz.func69,Tryz.ntmps69
   go_wp2_with fail
   go_ret
   exact ⟨rfl,rfl⟩
 · clear h
   go_enter Tryz.func69,Tryz.ntmps69
   go_wp2_with fail
   go_ret
   exact ⟨rfl,rfl⟩
set_option maxRecDepth 100000 in
set_option maxHeartbeats 1600000 in
theorem refOp_any (o:Nat) (ho:o<11) (w:World):Calls Tryz.prog 70 #[.int .i64 (9+(o:Int))] w fun e w'=>e = .returned (.string (opS.getD o ⟨#[]⟩))∧Below w.heap.size w w':=by
 have h:o=0∨o=1∨o=2∨o=3∨o=4∨o=5∨o=6∨o=7∨o=8∨o=9∨o=10:=by omega
 rcases h with rfl | rfl | rfl | rfl | rfl | rfl | rfl | rfl | rfl | rfl | rfl
 all_goals
  go_enter Tryz.func70,Tryz.ntmps70
  go_wp2_with fail
  go_ret
  exact ⟨rfl,(Below.refl _ _).alloc (Nat.le_refl _) _⟩
theorem own8_one (w:World) (base:Nat) (x:Int) (hb:base≤w.heap.size):Own (encInt .u8) 5 (w.alloc (.cells #[.int .u8 x] 5)) base (.slice (some ⟨w.heap.size,0,none⟩) 1 1) [x] :=
 ⟨rfl,.inr ⟨w.heap.size,1,_,rfl,hb,(Go.MapKept.heap_alloc w _).1,Nat.le_refl _,by decide,rfl,rfl⟩⟩
theorem dbl_one (x:Int) (l:List Int):dblL (x :: l)=(if x=34 then [34,34] else [x])++dblL l:=rfl
set_option maxRecDepth 100000 in
set_option maxHeartbeats 4000000 in
theorem refQuote_any (s:ByteArray) (w:World) (hs:s.size≤1000000000):Calls Tryz.prog 66 #[.string s] w fun e w'=>e = .returned (.string (strOfNums (34 :: (dblL (sb s)++[34]))))∧Below w.heap.size w w':=by
 go_enter Tryz.func66,Tryz.ntmps66
 go_upto_region 3 with (fail)
 go_loopw [3,4] (fun ov iv wr=>∃ (i:Nat) (xs:List Int),i≤s.size∧xs.length≤1+2*i∧iv = .int .i64 (i:Int)∧Hid (xs++dblL (restL s i)=34 :: dblL (sb s))∧Hid (Own8 wr w.heap.size ov xs)∧Hid (Below w.heap.size w wr))
  (fun _ iv _=>s.size - (intOf iv).toNat)
 case atStart=>exact ⟨0,[34],Nat.zero_le _,by simp,rfl,Lib.hid rfl,Lib.hid (own8_one w _ 34 (Nat.le_refl _)),Lib.hid ((Below.refl _ _).alloc (Nat.le_refl _) _)⟩
 case round =>
  obtain ⟨i,xs,hi,hxl,rfl,HD,HO,HB⟩:=hrel
  by_cases hlt:i<s.size
  · have hii:(i:Int)<(s.size:Int):=by omega
    obtain ⟨a,ha⟩:∃ a:Int,(s[i].toNat:Int)=a:=⟨_,rfl⟩
    have ha1:0≤a∧a≤255:=by have:=s[i].toNat_lt;omega
    have HR:=Lib.hid (show dblL (restL s i)=(if a=34 then [34,34] else [a])++dblL (restL s (i+1)) by rw [restL_cons s i hlt,dbl_one,ha])
    by_cases h34:a=34
    · have hb34:(a == 34)=true:=beq_iff_eq.2 h34
      have HX:=Lib.hid (show ((xs++[34])++[a])++dblL (restL s (i+1))=34 :: dblL (sb s) by rw [← HD.out,HR.out,if_pos h34,h34];simp)
      clear h34 HD HR
      go_wp2_with (first
       | (at_builtin;refine wpList_app Elem.u8 (encInt .u8) rfl (.tmp 16) (.tmp 17) rfl w.heap.size _ _ rfl (HO.out.alloc _) ⟨_,0,none⟩ 1 1 [34] rfl rfl ?_ ?_ ?_ ?_ ?_;exact cells_new _ _ _ rfl;(first | omega | (simp only [List.length_append,List.length_cons,List.length_nil];omega));(unfold maxLen;first | omega | (simp only [List.length_append,List.length_cons,List.length_nil];omega));(have:=HB.out.size;simp <;> omega);intro v1 w1 h1 h2;have HO1:=Lib.hid h1;have HB1:=Lib.hid ((HB.out.alloc HB.out.size _).trans h2);clear h1 h2)
       | (at_builtin;refine wpList_app Elem.u8 (encInt .u8) rfl (.tmp 19) (.tmp 23) rfl w.heap.size _ _ rfl (HO1.out.alloc _) ⟨_,0,none⟩ 1 1 [a] rfl rfl ?_ ?_ ?_ ?_ ?_;exact cells_new _ _ _ rfl;(first | omega | (simp only [List.length_append,List.length_cons,List.length_nil];omega));(unfold maxLen;first | omega | (simp only [List.length_append,List.length_cons,List.length_nil];omega));(have:=HB1.out.size;simp <;> omega);intro v2 w2 h1 h2;have HO2:=Lib.hid h1;have HB2:=Lib.hid ((HB1.out.alloc HB1.out.size _).trans h2);clear h1 h2))
      go_roundw
      case rel=>exact ⟨i+1,_,by omega,by simp;omega,by go_num,HX,HO2,HB2⟩
      case measure=>simp [intOf];omega
    · have hb34:(a == 34)=false:=beq_eq_false_iff_ne.2 h34
      have HX:=Lib.hid (show (xs++[a])++dblL (restL s (i+1))=34 :: dblL (sb s) by rw [← HD.out,HR.out,if_neg h34];simp)
      clear h34 HD HR
      go_wp2_with ((at_builtin;refine wpList_app Elem.u8 (encInt .u8) rfl (.tmp 19) (.tmp 23) rfl w.heap.size _ _ rfl (HO.out.alloc _) ⟨_,0,none⟩ 1 1 [a] rfl rfl ?_ ?_ ?_ ?_ ?_;exact cells_new _ _ _ rfl;(first | omega | (simp only [List.length_append,List.length_cons,List.length_nil];omega));(unfold maxLen;first | omega | (simp only [List.length_append,List.length_cons,List.length_nil];omega));(have:=HB.out.size;simp <;> omega);intro v1 w1 h1 h2;have HO1:=Lib.hid h1;have HB1:=Lib.hid ((HB.out.alloc HB.out.size _).trans h2);clear h1 h2))
      go_roundw
      case rel=>exact ⟨i+1,_,by omega,by simp;omega,by go_num,HX,HO1,HB1⟩
      case measure=>simp [intOf];omega
  · have hii:¬ (i:Int)<(s.size:Int):=by omega
    have HX:=Lib.hid (show xs++[34]=34 :: (dblL (sb s)++[34]) by
     have:=HD.out
     rw [restL_nil s i (by omega)] at this
     rw [show xs=34 :: dblL (sb s) from (List.append_nil xs).symm.trans this];rfl)
    clear HD
    go_wp2_with (at_builtin;refine wpList_app Elem.u8 (encInt .u8) rfl (.tmp 25) (.tmp 26) rfl w.heap.size _ _ rfl (HO.out.alloc _) ⟨_,0,none⟩ 1 1 [34] rfl rfl ?_ ?_ ?_ ?_ ?_;exact cells_new _ _ _ rfl;(first | omega | (simp only [List.length_append,List.length_cons,List.length_nil];omega));(unfold maxLen;first | omega | (simp only [List.length_append,List.length_cons,List.length_nil];omega));(have:=HB.out.size;simp <;> omega);intro v1 w1 h1 h2;have HO1:=Lib.hid h1;have HB1:=Lib.hid ((HB.out.alloc HB.out.size _).trans h2);clear h1 h2;have hcv:=run_str8 HO1.out)
    go_ret
    exact ⟨ret_str (congrArg strOfNums HX.out),HB1.out⟩
end Go.Proofs.YtecpbligblnonaaGreatDoor
