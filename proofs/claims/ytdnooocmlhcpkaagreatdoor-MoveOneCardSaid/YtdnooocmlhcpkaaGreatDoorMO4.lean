/-
 Texts of layers, put together.
-/
import Derived.Test.YtdnooocmlhcpkaaGreatDoorMO3
import Derived.Lib.LaidTab
import Derived.Deep.RegionWith
import Derived.Deep.RegionHeld3
import Derived.Deep.CutBlock
namespace Go.Proofs.YtdnooocmlhcpkaaGreatDoor
open Go.RowKit
theorem run_tok_kind (kd:Int) (l:Array Value) (hl:l[0]? = some (.int .i64 kd)) (w:World):Sem.run Tryz.prog (Instr.field 154 (.agg l) 0) w = .ok (.int .i64 kd) w:=by
 simp [Instr.field,run_underlying Tryz.underlying154,part,isAgg,run_underlying Tryz.underlying3,asAgg,hl,go_sem]
def PIs (s:ByteArray) (res:Except Int (List Nd)):Prop :=
 (300<s.size∧res = .error 4)∨(s.size≤300∧lexL (sb s)=none∧res = .error 5)∨(s.size≤300∧∃ ts f,lexL (sb s)=some ts∧parseP f ts=some res)
def Parsed (res:Except Int (List Nd)) (w:World) (e:Ending) (w':World):Prop :=
 Below w.heap.size w w'∧((∃ c,res = .error c∧e = .returned (.tuple #[.slice none 0 0,.int .i64 c])) ∨
  (∃ ns nv vs,res = .ok ns∧vs.map Nv.n=ns∧e = .returned (.tuple #[nv,.int .i64 0])∧NodV w' w.heap.size nv vs∧treeB ns=true))
theorem NodV.mono {w:World} {lo lo':Nat} {nv:Value} {vs:List Nv} (h:NodV w lo nv vs) (hl:lo'≤lo):NodV w lo' nv vs:=⟨h.1.mono hl,fun v hv=>(h.2 v hv).mono hl⟩
set_option maxRecDepth 100000 in
set_option maxHeartbeats 4000000 in
theorem parse_any (s:ByteArray) (w:World) (hv:Vars w) (ho:OpV w) (res:Except Int (List Nd)) (hp:PIs s res) :
 Calls Tryz.prog 87 #[.string s] w (Parsed res w):=by
 rcases hp with ⟨h1,rfl⟩ | ⟨h1,h2,rfl⟩ | ⟨h1,ts,f,h2,h3⟩
 · have HL:=Lib.hid (lex_over s w hv h1)
   clear hv ho h1
   go_enter Tryz.func87,Tryz.ntmps87
   go_wp2_with (go_at_call 125;((with_reducible refine HL.out.mono ?_);rintro e w1 ⟨hb,rfl⟩;have HB:=Lib.hid hb;clear hb))
   go_ret2
   exact ⟨HB.out,.inl ⟨4,rfl,rfl⟩⟩
 · have HL:=Lib.hid (lex_isnt s w hv h1 h2)
   clear hv ho h1 h2
   go_enter Tryz.func87,Tryz.ntmps87
   go_wp2_with (go_at_call 125;((with_reducible refine HL.out.mono ?_);rintro e w1 ⟨hb,rfl⟩;have HB:=Lib.hid hb;clear hb))
   go_ret2
   exact ⟨HB.out,.inl ⟨5,rfl,rfl⟩⟩
 · obtain ⟨hgood,hfit⟩:=lexL_good s ts h2
   have hlen:=lexL_len s ts h2
   have hne:=List.length_pos_iff.2 (lexL_ne s ts h2)
   have HL:=Lib.hid (lex_is s w hv h1 ts h2 hne)
   have hvl:=hv.lt
   have hol:=ho.lt
   have HOV:=Lib.hid ho
   have HFIT:=Lib.hid hfit
   have HTREE:=Lib.hid (fun ns (h:res = .ok ns)=>parse_tree (by rw [← h];exact h3) hgood)
   unfold parseP at h3
   have H3:=Lib.hid h3
   obtain ⟨nt,hnt⟩:∃ nt,ts.length=nt:=⟨_,rfl⟩
   have HNT:=Lib.hid hnt
   rw [hnt] at HL hlen hne
   clear hv ho h2 h3 hgood hfit hnt
   go_enter Tryz.func87,Tryz.ntmps87
   go_upto_region 5 with (go_at_call 125;((with_reducible refine HL.out.mono ?_);rintro e w1 ⟨hb,g1,cap1,rfl,hg0,hg1,ho⟩;have HO1:=Lib.hid ho;have HB:=Lib.hid hb;clear hb ho))
   have hB2:Below w1.heap.size w1 (w1.alloc (.cells #[.slice (some ⟨g1,0,none⟩) nt cap1,.int .i64 0,.int .i64 0,.slice none 0 0] 172)):=(Below.refl _ _).alloc (Nat.le_refl _) _
   have hC2:(w1.alloc (.cells #[.slice (some ⟨g1,0,none⟩) nt cap1,.int .i64 0,.int .i64 0,.slice none 0 0] 172)).heap[w1.heap.size]? = some (.cells #[.slice (some ⟨g1,0,none⟩) nt cap1,.int .i64 0,.int .i64 0,.slice none 0 0] 172):=(Go.MapKept.heap_alloc w1 _).1
   have HO2:=Lib.hid (HO1.out.below hB2 (Nat.le_refl _))
   have HOV2:=Lib.hid (HOV.out.below (HB.out.trans (hB2.mono HB.out.size)))
   have HZ1:=Lib.hid HB.out.size
   have HB2:=Lib.hid (HB.out.trans (hB2.mono HB.out.size))
   clear hB2 HB HL HO1 HOV
   generalize w1.alloc (.cells #[.slice (some ⟨g1,0,none⟩) nt cap1,.int .i64 0,.int .i64 0,.slice none 0 0] 172)=w2 at hC2 HO2 HOV2 HB2 ⊢
   obtain ⟨b,hb⟩:∃ b,w1.heap.size=b:=⟨_,rfl⟩
   rw [hb] at hC2 hg1 HZ1 ⊢
   have hz1:=HZ1.out
   have HP:=Lib.hid (show Ps w2 b (.slice (some ⟨g1,0,none⟩) nt cap1) ts 0 0 (.slice none 0 0) [] from
    ⟨hC2,⟨g1,cap1,by rw [HNT.out],hg1,HO2.out.mono (Nat.zero_le _)⟩,NodV.nil _ _,HOV2.out,by rw [HNT.out];exact hne,by omega,HFIT.out,by rw [HNT.out];omega,Nat.zero_le _,by omega⟩)
   clear hb hC2 HO2 HOV2 HFIT w1
   rcases bindR_some H3.out with ⟨c,g2,rfl⟩ | ⟨ns,a,r,g2,g3⟩
   · have HX:=Lib.hid (show Calls Tryz.prog 126 #[.pointer (some ⟨b,0,none⟩),.int .i64 0] w2 (Out (.error c) w2 b (.slice (some ⟨g1,0,none⟩) nt cap1) ts 0 []) from ex_all f 0 0 _ w2 b _ ts 0 _ [] (by omega) HP.out g2)
     clear g2 H3
     go_wp2_with (go_at_call 126;((with_reducible refine HX.out.mono ?_);intro e w5 ho;obtain ⟨hf,hc,rfl⟩:=ho.bad rfl;have HB5:=Lib.hid (HB2.out.trans (hf.toBelow hz1 HB2.out.size));have hc0:(c != 0)=true:=(by rw [bne_iff_ne];rcases hc with h | h <;> omega);clear hf hc ho))
     go_ret2
     exact ⟨HB5.out,.inl ⟨c,rfl,rfl⟩⟩
   · have HX:=Lib.hid (show Calls Tryz.prog 126 #[.pointer (some ⟨b,0,none⟩),.int .i64 0] w2 (Out (.ok (ns,a,r)) w2 b (.slice (some ⟨g1,0,none⟩) nt cap1) ts 0 []) from ex_all f 0 0 _ w2 b _ ts 0 _ [] (by omega) HP.out g2)
     have hns:=((told_all f).1 _ _ _ _ _ _ _ g2).2.2
     have H4:=Lib.hid g3
     clear g2 g3 H3
     go_upto_region 8 with (go_at_call 126;((with_reducible refine HX.out.mono ?_);intro e w5 ho;obtain ⟨hf,rfl,p5,nv5,us5,hp5,hu5,hk5,hps5⟩:=ho.good rfl;have HB5:=Lib.hid (HB2.out.trans (hf.toBelow hz1 HB2.out.size));have HP5:=Lib.hid hps5;have HD5:=Lib.hid hp5;have HU5:=Lib.hid hu5;clear hf ho hp5 hu5 hk5 hps5))
     obtain ⟨gt,ct,t, -,ht,hd, -⟩:=HP5.out.tok
     have h4:=H4.out
     rw [← HD5.out,hd] at h4
     have HTK:=Lib.hid (ptoken_any HP5.out t ht)
     obtain ⟨g5,cap5,rfl, -⟩:=Own.some HP5.out.nodes.1 (show 0<([]++us5).length by rw [List.nil_append, ← List.length_map (f:=Nv.n),HU5.out];omega)
     obtain ⟨kd,hkd⟩:∃ kd,t.kind=kd:=⟨_,rfl⟩
     rw [hkd] at HTK
     clear HX ht hd H4
     by_cases h0:t.kind=0
     · rw [show kindAt (t :: ts.drop (p5+1))=t.kind from rfl,if_pos h0] at h4
       injection h4 with h4
       have HR:=Lib.hid h4.symm
       have e0:(kd != 0)=false:=by rw [← hkd,h0];rfl
       clear h4 h0 hkd
       go_wp2_with (go_at_call 127;((with_reducible refine HTK.out.mono ?_);rintro e w6 ⟨rfl,h1⟩;have HB6:=Lib.hid (HB5.out.trans (h1.mono HB5.out.size));have HP6:=Lib.hid (HP5.out.below h1);obtain ⟨c0,c1,c2,c3⟩:=HP6.out.facts;have hfd:=run_tok_kind kd #[.int .i64 kd,.string t.text,.int .i64 t.num,.string t.sh,.int .i64 t.c,.int .i64 t.r,.bool t.ac,.bool t.ar,.int .i64 t.pos] rfl w6;clear h1))
       go_ret2
       exact ⟨HB6.out,.inr ⟨ns,_,[]++us5,HR.out,by rw [List.nil_append];exact HU5.out,rfl,HP6.out.nodes.mono (by omega),HTREE.out ns HR.out⟩⟩
     · rw [show kindAt (t :: ts.drop (p5+1))=t.kind from rfl,if_neg h0] at h4
       injection h4 with h4
       have HR:=Lib.hid h4.symm
       have e0:(kd != 0)=true:=by rw [bne_iff_ne, ← hkd];exact h0
       clear h4 h0 hkd
       go_wp2_with (go_at_call 127;((with_reducible refine HTK.out.mono ?_);rintro e w6 ⟨rfl,h1⟩;have HB6:=Lib.hid (HB5.out.trans (h1.mono HB5.out.size));have hfd:=run_tok_kind kd #[.int .i64 kd,.string t.text,.int .i64 t.num,.string t.sh,.int .i64 t.c,.int .i64 t.r,.bool t.ac,.bool t.ar,.int .i64 t.pos] rfl w6;clear h1))
       go_ret2
       exact ⟨HB6.out,.inl ⟨5,HR.out,rfl⟩⟩
theorem parse_ok (s:ByteArray) (w:World) (hv:Vars w) (ho:OpV w) (ns:List Nd) (hp:PIs s (.ok ns)) (hne:0<ns.length) :
 Calls Tryz.prog 87 #[.string s] w fun e w'=>Below w.heap.size w w'∧∃ g cap vs,e = .returned (.tuple #[.slice (some ⟨g,0,none⟩) ns.length cap,.int .i64 0])∧vs.map Nv.n=ns∧vs.length=ns.length∧NodV w' w.heap.size (.slice (some ⟨g,0,none⟩) ns.length cap) vs∧treeB ns=true:=by
 refine (parse_any s w hv ho _ hp).mono ?_
 rintro e w' ⟨hb,⟨c',h1,h2⟩ | ⟨ns',nv,vs,h1,h2,h3,h4,h5⟩⟩
 · cases h1
 · injection h1 with h1;subst h1
   have hl:vs.length=ns.length:=by rw [← h2,List.length_map]
   obtain ⟨g,cap,rfl, -⟩:=Own.some h4.1 (by omega)
   rw [hl] at h3 h4
   exact ⟨hb,g,cap,vs,h3,h2,hl,h4,h5⟩
theorem NodV.cell {w:World} {lo g n cap:Nat} {vs:List Nv} (h:NodV w lo (.slice (some ⟨g,0,none⟩) n cap) vs) (i:Nat) (v:Nv) (hi:vs[i]? = some v) (j:Nat) (hj:j<14):w.cell? ⟨g,i*14+j,none⟩=(nodA v.n v.kv).toList[j]? := by
 have hl:(nodA v.n v.kv).toList.length=14:=rfl
 have hu:(encNv.f v)[j]? = some ((nodA v.n v.kv).toList[j]'(by omega)):=List.getElem?_eq_getElem _
 have:=Own.cells h.1 (i*14+j) _ (by rw [encNv.at vs i j v hi hj];exact hu)
 rw [this];exact hu.symm
theorem sb_dec:∀ (n u:Nat),u<n→sb ⟨(Lib.decDigits u).toArray⟩=digL u:=by
 have sbm:∀ l:List UInt8,sb ⟨l.toArray⟩=l.map (fun b=>(b.toNat:Int)):=fun l=>rfl
 intro n
 induction n with
 | zero=>intro u h;omega
 | succ n ih =>
   intro u hu
   rw [sbm,Lib.decDigits]
   by_cases h:u<10
   · rw [dif_pos h,digL_small u h]
     simp only [List.map_cons,List.map_nil]
     rw [UInt8.toNat_ofNat_of_lt' (by show 48+u<256;omega)];congr 1
   · rw [dif_neg h,digL_more u h,List.map_append, ← sbm,ih (u / 10) (by omega)]
     simp only [List.map_cons,List.map_nil]
     rw [UInt8.toNat_ofNat_of_lt' (by show 48+u % 10<256;omega)];congr 1
theorem dec_str (u:Nat):(⟨(Lib.decDigits u).toArray⟩:ByteArray)=strOfNums (digL u):=by
 rw [← str_sb ⟨(Lib.decDigits u).toArray⟩,sb_dec (u+1) u (by omega)]
def Tab (w : World) : Prop := Lib.TabIs Tryz.prog w "internal/strconv.uint64pow10" .u64 Lib.pow10Tab
theorem gTab : Tryz.prog.globalNamed "internal/strconv.uint64pow10" = some 3 := by kernel_rfl
theorem Tab.below {w w':World} (h:Tab w) (hb:Below w.heap.size w w'):Tab w':=by
 unfold Tab Lib.TabIs World.var? at h ⊢
 rw [gTab] at h ⊢
 simp only [Option.bind_some] at h ⊢
 rw [hb.block _ ?_]
 · exact h
 · rcases Nat.lt_or_ge 3 w.heap.size with h' | h'
   · exact h'
   · rw [Array.getElem?_eq_none h'] at h;cases h
theorem below_grow (w:World) (k:Nat) (os:Array Obj):Below w.heap.size w (Sort.grow (w.drewN k) os):=by
 refine ⟨rfl,rfl,rfl, ?_, ?_⟩
 · show w.heap.size≤(w.heap++os).size
   simp
 · intro j hj
   show (w.heap++os)[j]? = w.heap[j]?
   rw [Array.getElem?_append_left hj]
theorem itoa_any (n:Nat) (_h1:n≤9223372036854775807) (w:World) (ht:Tab w) :
 Calls Tryz.prog 105 #[.int .i64 (n:Int)] w fun e w'=>e = .returned (.string (strOfNums (digL n)))∧Below w.heap.size w w':=by
 refine (Tryz.strconv_Itoa (n:Int) (by omega) (by omega) w ht).mono ?_
 rintro e w' ⟨rfl,k,os,rfl⟩
 refine ⟨?_,below_grow w k os⟩
 have:Lib.itoa (n:Int)=Lib.decDigits n:=by unfold Lib.itoa;rw [if_neg (by omega)];rfl
 rw [this,dec_str]
set_option maxRecDepth 100000 in
set_option maxHeartbeats 400000 in
theorem may_any (s:ByteArray) (c r:Int) (ac ar:Bool) (w:World) (_hs:s.size≤1000000) :
 Calls Tryz.prog 119 #[.agg #[.string s,.int .i64 c,.int .i64 r,.bool ac,.bool ar]] w fun e w'=>e = .returned (.bool (mayL (sb s) c r))∧Below w.heap.size w w':=by
 by_cases h0:s.size=0
 · have:=sb_nil s h0
   subst this
   have hm:mayL (sb ⟨#[]⟩) c r=decide (0≤c∧c≤701∧0≤r∧r≤998):=by unfold mayL;rw [show decide (sb ⟨#[]⟩=[])=true from by decide,Bool.true_or,Bool.true_and]
   have HM:=Lib.hid hm;clear hm
   go_enter Tryz.func119,Tryz.ntmps119
   go_wp2
   all_goals go_ret
   all_goals exact ⟨ret_bool (by rw [HM.out];first | (symm;rw [decide_eq_true_iff];omega) | (symm;rw [decide_eq_false_iff_not];omega) | (rw [decide_eq_decide];omega)),(Below.refl _ _).alloc (Nat.le_refl _) _⟩
 · have hne:=text_ne0 s h0
   have hne2:s.toList.isEmpty=false:=by cases hq:s.toList with | nil=>exact absurd hq hne | cons a l=>rfl
   have hm:mayL (sb s) c r=(nameL (sb s)&&decide (0≤c∧c≤701∧0≤r∧r≤998)):=by
    unfold mayL;rw [decide_eq_false (by intro h;have:=length_sb s;rw [h] at this;exact h0 this.symm),Bool.false_or]
   have HM:=Lib.hid hm;clear hm h0
   by_cases hn:nameL (sb s)=true
   · go_enter Tryz.func119,Tryz.ntmps119
     go_wp2_with (first
      | (go_at_call 73;((with_reducible refine (name_any _ _ ?_).mono ?_);(first | omega | skip);rintro e w' ⟨rfl,rfl⟩)))
     all_goals go_ret
     all_goals exact ⟨ret_bool (by rw [HM.out,hn,Bool.true_and];first | (symm;rw [decide_eq_true_iff];omega) | (symm;rw [decide_eq_false_iff_not];omega) | (rw [decide_eq_decide];omega)),(Below.refl _ _).alloc (Nat.le_refl _) _⟩
   · have hn':nameL (sb s)=false:=by simpa using hn
     clear hn
     go_enter Tryz.func119,Tryz.ntmps119
     go_wp2_with (first
      | (go_at_call 73;((with_reducible refine (name_any _ _ ?_).mono ?_);(first | omega | skip);rintro e w' ⟨rfl,rfl⟩)))
     all_goals go_ret
     all_goals exact ⟨ret_bool (by rw [HM.out,hn',Bool.false_and]),(Below.refl _ _).alloc (Nat.le_refl _) _⟩
theorem name_lex (s:ByteArray) (h:calledL (sb s)=true) (hr:readS s=none):∃ t ts,lexL (sb s)=some (t :: ts)∧t.kind=3∧t.text=s:=by
 have hc:=h
 unfold calledL at hc
 rw [Bool.and_eq_true,Bool.and_eq_true,decide_eq_true_iff,decide_eq_true_iff] at hc
 obtain ⟨c1,c2,c3⟩:=hc
 have hs:=str_sb s
 cases hq:sb s with
 | nil=>rw [hq] at c2;simp at c2
 | cons x l =>
   rw [hq] at c1 c3 hs h
   have hall:∀ y∈x :: l,isWord y=true:=by
    intro y hy
    have:=c1 y hy
    rw [Bool.or_eq_true] at this
    rcases this with g | g
    · rw [isWord_beg,isBeg_cap g];rfl
    · rw [isWord_beg,g];simp
   have hx:isCap x=true:=by simpa using c3
   have hxr:65≤x∧x≤90:=by unfold isCap at hx;rw [decide_eq_true_iff] at hx;omega
   have h1:¬ isNum x=true:=by unfold isNum;rw [decide_eq_true_iff];omega
   have hl:isLet x=true:=by unfold isLet;rw [decide_eq_true_iff];omega
   have ht:(x :: l).takeWhile isWord=x :: l:=by
    have:=take_part isWord (x :: l) [] hall (fun y hy=>by simp at hy)
    rw [List.append_nil] at this;exact this
   have htok:tokT (x :: l)=some ({ Tk.zero with kind:=3,text:=s },(x :: l).length):=by
    rw [tokT_cons,if_neg h1,if_neg (by omega),if_neg (by omega),if_pos (.inl hl)]
    unfold wordT
    rw [ht,hs,hr]
    simp only
    rw [if_pos h]
   refine ⟨({ Tk.zero with kind:=3,text:=s }:Tk).goto 0,[Tk.zero.goto (0+(x :: l).length)], ?_,rfl,rfl⟩
   unfold lexL
   rw [List.length_cons,lexF_cons,if_neg (by omega),htok]
   simp only
   rw [List.drop_length]
   have:lexF l.length (0+(x :: l).length) []=some [Tk.zero.goto (0+(x :: l).length)]:=by unfold lexF;rfl
   rw [this];rfl
theorem callB_eq (s:ByteArray):callB s=((calledL (sb s)&&(readS s).isNone)&&(decide (¬ s=⟨#[84,82,85,69]⟩)&&decide (¬ s=⟨#[70,65,76,83,69]⟩))):=by unfold callB;rw [Bool.and_assoc]
theorem callB_bad (s:ByteArray) (h:∀ t ts,lexL (sb s)=some (t :: ts)→¬ (t.kind=3∧t.text=s)):callB s=false:=by
 rw [callB_eq]
 cases hc:calledL (sb s)
 · rfl
 · cases hr:readS s with
   | some d=>rfl
   | none =>
     obtain ⟨t,ts,h1,h2,h3⟩:=name_lex s hc hr
     exact absurd ⟨h2,h3⟩ (h t ts h1)
theorem callB_big (s:ByteArray) (h:12<s.size):callB s=false:=by
 rw [callB_eq]
 have:calledL (sb s)=false:=by
  unfold calledL
  rw [decide_eq_false (show ¬ (1≤(sb s).length∧(sb s).length≤12) by rw [length_sb];omega),Bool.false_and,Bool.and_false]
 rw [this];rfl
set_option maxRecDepth 100000 in
set_option maxHeartbeats 2000000 in
theorem isName5_any (s:ByteArray) (w:World) (hv:Vars w):Calls Tryz.prog 145 #[.string s] w fun e w'=>e = .returned (.bool (callB s))∧Below w.heap.size w w':=by
 have bad:∀ c:Int,(c != 0)=true→callB s=false→(Calls Tryz.prog 125 #[.string s] w fun e w'=>Below w.heap.size w w'∧e = .returned (.tuple #[.slice none 0 0,.int .i64 c])) →
  Calls Tryz.prog 145 #[.string s] w fun e w'=>e = .returned (.bool (callB s))∧Below w.heap.size w w':=by
  intro c hc hb hl
  have HL:=Lib.hid hl;have HB0:=Lib.hid hb
  have hc2:(c == 0)=false:=by rw [beq_eq_false_iff_ne];exact bne_iff_ne.1 hc
  clear hl hb
  go_enter Tryz.func145,Tryz.ntmps145
  go_wp2_with (go_at_call 125;((with_reducible refine HL.out.mono ?_);rintro e w1 ⟨hb,rfl⟩;have HB:=Lib.hid hb;clear hb))
  go_ret
  exact ⟨by rw [HB0.out] <;> rfl,HB.out⟩
 by_cases hbig:300<s.size
 · exact bad 4 rfl (callB_big s (by omega)) (lex_over s w hv hbig)
 · cases hl : lexL (sb s) with
   | none=>exact bad 5 rfl (callB_bad s (fun t ts h=>by rw [hl] at h;cases h)) (lex_isnt s w hv (by omega) hl)
   | some ts =>
     have hne:=lexL_ne s ts hl
     obtain ⟨hgood,_⟩:=lexL_good s ts hl
     match ts,hne,hl,hgood with
     | t :: tl,_,hl,hgood =>
     have HX:=Lib.hid (lex_is s w hv (by omega) (t :: tl) hl (by simp))
     have hg:=hgood t (by simp)
     obtain ⟨kd,hkd⟩:∃ kd,t.kind=kd:=⟨_,rfl⟩
     obtain ⟨tx,htx⟩:∃ tx,t.text=tx:=⟨_,rfl⟩
     have HC:=Lib.hid (fun h=>callB_bad s (fun t' ts' h'=>by rw [hl] at h';injection h' with h';injection h' with h1 h2;subst h1;exact h))
     have HG:=Lib.hid (show kd=3→tx=s→callB s=(decide (¬ s=⟨#[84,82,85,69]⟩)&&decide (¬ s=⟨#[70,65,76,83,69]⟩)) from by
      intro h1 h2
      obtain ⟨g1,g2⟩:=hg.name (by rw [hkd,h1])
      rw [htx,h2] at g1 g2
      rw [callB_eq,g1,g2];rfl)
     have HK:=Lib.hid hkd;have HT:=Lib.hid htx
     obtain ⟨n,hn⟩:∃ n,(t :: tl).length=n:=⟨_,rfl⟩
     have hn1:0<n:=by rw [← hn];simp
     rw [hn] at HX
     have q1:=word_eq s ⟨#[84,82,85,69]⟩
     have q2:=word_eq s ⟨#[70,65,76,83,69]⟩
     rw [list_true] at q1
     rw [list_false] at q2
     clear hl hgood hg hkd htx hn hne bad
     go_enter Tryz.func145,Tryz.ntmps145
     go_upto_region 2 with (go_at_call 125;((with_reducible refine HX.out.mono ?_);rintro e w1 ⟨hb,g,cap,rfl,hg0,hg1,ho⟩;have HB:=Lib.hid hb;have k0:w1.cell? ⟨g,0,none⟩=some (.int .i64 kd):=((OwnT.cell ho 0 t rfl 0 (by omega)).trans (by show some (Value.int .i64 t.kind)=_;rw [HK.out]));have k1:w1.cell? ⟨g,1,none⟩=some (.string tx):=((OwnT.cell ho 0 t rfl 1 (by omega)).trans (by show some (Value.string t.text)=_;rw [HT.out]));clear hb ho))
     have hni:(0:Int)<(n:Int):=by omega
     by_cases h3:kd=3
     · have e3:(kd == 3)=true:=beq_iff_eq.2 h3
       by_cases hs:tx=s
       · have HR:=Lib.hid (HG.out h3 hs)
         have q3:(tx.toList == s.toList)=true:=by rw [hs];simp
         clear h3 hs HC HG HK HT HX
         by_cases h1:s=⟨#[84,82,85,69]⟩
         · rw [decide_eq_true h1] at q1
           rw [decide_eq_false (show ¬ ¬ s=⟨#[84,82,85,69]⟩ from fun h=>h h1),Bool.false_and] at HR
           have q1n:(s.toList != [84,82,85,69])=false:=by rw [bne,q1];rfl
           clear h1
           go_wp2_with fail
           go_ret
           exact ⟨by rw [HR.out] <;> rfl,HB.out⟩
         · rw [decide_eq_false h1] at q1
           rw [decide_eq_true h1,Bool.true_and] at HR
           have q1n:(s.toList != [84,82,85,69])=true:=by rw [bne,q1];rfl
           clear h1
           by_cases h2:s=⟨#[70,65,76,83,69]⟩
           · rw [decide_eq_true h2] at q2
             rw [decide_eq_false (show ¬ ¬ s=⟨#[70,65,76,83,69]⟩ from fun h=>h h2)] at HR
             have q2n:(s.toList != [70,65,76,83,69])=false:=by rw [bne,q2];rfl
             clear h2
             go_wp2_with fail
             go_ret
             exact ⟨by rw [HR.out] <;> rfl,HB.out⟩
           · rw [decide_eq_false h2] at q2
             rw [decide_eq_true h2] at HR
             have q2n:(s.toList != [70,65,76,83,69])=true:=by rw [bne,q2];rfl
             clear h2
             go_wp2_with fail
             go_ret
             exact ⟨by rw [HR.out] <;> rfl,HB.out⟩
       · have HR:=Lib.hid (HC.out (fun h=>hs (by rw [← HT.out];exact h.2)))
         have q3:(tx.toList == s.toList)=false:=beq_eq_false_iff_ne.2 (text_ne _ _ hs)
         clear h3 hs HC HG HK HT HX
         go_wp2_with fail
         go_ret
         exact ⟨by rw [HR.out] <;> rfl,HB.out⟩
     · have HR:=Lib.hid (HC.out (fun h=>h3 (by rw [← HK.out];exact h.1)))
       have e3:(kd == 3)=false:=beq_eq_false_iff_ne.2 h3
       clear h3 HC HG HK HT HX
       go_wp2_with fail
       go_ret
       exact ⟨by rw [HR.out] <;> rfl,HB.out⟩
theorem printB_bad (s:ByteArray) (k:Nat) (h:k<s.size) (hx:((s[k].toNat:Nat):Int)<32):printB (sb s)=false:=by
 unfold printB;rw [decide_eq_false_iff_not];intro hall
 exact hall _ (List.mem_of_getElem? (sb_at s k h)) hx
theorem printB_all (s:ByteArray) (h:∀ (j:Nat) (hj:j<s.size),¬ ((s[j].toNat:Nat):Int)<32):printB (sb s)=true:=by
 unfold printB;rw [decide_eq_true_iff]
 intro x hx
 obtain ⟨j,hj,rfl⟩:=List.mem_iff_getElem.1 hx
 rw [length_sb] at hj
 have:=sb_at s j hj
 rw [List.getElem?_eq_getElem (by rw [length_sb];exact hj)] at this
 rw [Option.some.inj this];exact h j hj
set_option maxRecDepth 100000 in
set_option maxHeartbeats 800000 in
theorem isText_any (s:ByteArray) (w:World) (_hs:s.size≤1000000):Calls Tryz.prog 143 #[.string s] w fun e w'=>e = .returned (.bool (printB (sb s)))∧w=w':=by
 go_enter Tryz.func143,Tryz.ntmps143
 go_wp2_with fail
 go_loopw [6] (fun i wr=>∃ k:Nat,k≤s.size∧i = .int .i64 k∧Hid (∀ (j:Nat) (hj:j<s.size),j<k→¬ ((s[j].toNat:Nat):Int)<32)∧w=wr)
  (fun i _=>s.size - (intOf i).toNat)
 case atStart=>exact ⟨0,by omega,rfl,Lib.hid (by intro j _ hj;omega),rfl⟩
 case round =>
  obtain ⟨k,hk,rfl,HG,rfl⟩:=hrel
  by_cases hlt:k<s.size
  · have hki:(k:Int)<(s.size:Int):=by omega
    obtain ⟨a,ha⟩:∃ a:Int,(s[k].toNat:Int)=a:=⟨_,rfl⟩
    have ha1:0≤a∧a≤255:=by have:=s[k].toNat_lt;omega
    have HA:=Lib.hid ha
    by_cases h32:a<32
    · have HB:=Lib.hid (printB_bad s k hlt (by rw [ha];exact h32))
      go_wp2_with fail
      go_ret
      exact ⟨by rw [HB.out] <;> rfl,rfl⟩
    · go_wp2_with fail
      go_roundw
      case rel =>
       refine ⟨k+1,by omega,by go_num,Lib.hid ?_,by first | rfl | trivial⟩
       intro j hj hjk
       by_cases e:j=k
       · subst e;rw [HA.out];exact h32
       · exact HG.out j hj (by omega)
      case measure=>simp [intOf];omega
  · have hki:¬ (k:Int)<(s.size:Int):=by omega
    have HB:=Lib.hid (printB_all s (fun j hj=>HG.out j hj (by omega)))
    go_wp2_with fail
    go_ret
    exact ⟨by rw [HB.out] <;> rfl,rfl⟩
def twoB (k:Int):Bool:=decide (9≤k∧k≤19)
set_option maxHeartbeats 400000 in
theorem isOfTwo_any (k:Int) (w:World):Calls Tryz.prog 146 #[.int .i64 k] w fun e w'=>e = .returned (.bool (twoB k))∧w=w':=by
 go_enter Tryz.func146,Tryz.ntmps146
 by_cases h1:9≤k
 · by_cases h2:k≤19
   · go_wp2
     go_ret
     exact ⟨ret_bool (by unfold twoB;symm;rw [decide_eq_true_iff];exact ⟨h1,h2⟩),rfl⟩
   · go_wp2
     go_ret
     exact ⟨ret_bool (by unfold twoB;symm;rw [decide_eq_false_iff_not];omega),rfl⟩
 · go_wp2
   go_ret
   exact ⟨ret_bool (by unfold twoB;symm;rw [decide_eq_false_iff_not];omega),rfl⟩
def hkB (kind:Int) (m:Nat):Bool:=if kind=7 then true else if kind=8 then decide (m=1) else if twoB kind=true then decide (m=2) else decide (m=0)
set_option maxRecDepth 100000 in
set_option maxHeartbeats 1600000 in
theorem hasKids_any (n:Nd) (A:Option Addr) (m c:Nat) (hm:m≤maxLen) (w:World):Calls Tryz.prog 115 #[.agg #[.int .i64 n.kind,.int .i64 n.num,.string n.text,.string n.ref.sh,.int .i64 n.ref.c,.int .i64 n.ref.r,.bool n.ref.ac,.bool n.ref.ar,.string n.to.sh,.int .i64 n.to.c,.int .i64 n.to.r,.bool n.to.ac,.bool n.to.ar,.slice A m c]] w fun e w'=>e = .returned (.bool (hkB n.kind m))∧Below w.heap.size w w':=by
 have hx:NdAt (w.alloc (.cells #[.int .i64 n.kind,.int .i64 n.num,.string n.text,.string n.ref.sh,.int .i64 n.ref.c,.int .i64 n.ref.r,.bool n.ref.ac,.bool n.ref.ar,.string n.to.sh,.int .i64 n.to.c,.int .i64 n.to.r,.bool n.to.ac,.bool n.to.ar,.slice A m c] 48)) w.heap.size n (.slice A m c):=NdAt.new w n _
 have HB:=Lib.hid ((Below.refl w.heap.size w).alloc (Nat.le_refl _) (.cells #[.int .i64 n.kind,.int .i64 n.num,.string n.text,.string n.ref.sh,.int .i64 n.ref.c,.int .i64 n.ref.r,.bool n.ref.ac,.bool n.ref.ar,.string n.to.sh,.int .i64 n.to.c,.int .i64 n.to.r,.bool n.to.ac,.bool n.to.ar,.slice A m c] 48))
 go_enter Tryz.func115,Tryz.ntmps115
 go_upto_region 1 with (fail)
 generalize w.alloc (.cells #[.int .i64 n.kind,.int .i64 n.num,.string n.text,.string n.ref.sh,.int .i64 n.ref.c,.int .i64 n.ref.r,.bool n.ref.ac,.bool n.ref.ar,.string n.to.sh,.int .i64 n.to.c,.int .i64 n.to.r,.bool n.to.ac,.bool n.to.ar,.slice A m c] 48)=w1 at hx HB ⊢
 obtain ⟨x0,x1,x2,x3,x4,x5,x6,x7,x8,x9,x10,x11,x12,x13⟩:=hx.cells
 clear hx
 obtain ⟨kd,hkd⟩:∃ kd,n.kind=kd:=⟨_,rfl⟩
 rw [hkd] at x0
 have HKD:=Lib.hid hkd;clear hkd
 by_cases h7:kd=7
 · have e7:(kd == 7)=true:=beq_iff_eq.2 h7
   have HR:=Lib.hid (show hkB kd m=true by unfold hkB;rw [if_pos h7])
   clear h7
   go_wp2_with fail
   go_ret
   exact ⟨by rw [HKD.out,HR.out] <;> rfl,HB.out⟩
 have e7:(kd == 7)=false:=beq_eq_false_iff_ne.2 h7
 by_cases h8:kd=8
 · have e8:(kd == 8)=true:=beq_iff_eq.2 h8
   have HR:=Lib.hid (show hkB kd m=decide (m=1) by unfold hkB;rw [if_neg h7,if_pos h8])
   clear h7 h8
   by_cases hm1:m=1
   · subst hm1
     go_wp2_with fail
     go_ret
     exact ⟨by rw [HKD.out,HR.out] <;> rfl,HB.out⟩
   · have em:((m:Int) == 1)=false:=by rw [beq_eq_false_iff_ne];omega
     rw [decide_eq_false hm1] at HR
     go_wp2_with fail
     go_ret
     exact ⟨by rw [HKD.out,HR.out];first | rfl | (simp;omega),HB.out⟩
 have e8:(kd == 8)=false:=beq_eq_false_iff_ne.2 h8
 cases ht:twoB kd
 · have HR:=Lib.hid (show hkB kd m=decide (m=0) by unfold hkB;rw [if_neg h7,if_neg h8,ht,if_neg (by decide)])
   have HT:=isOfTwo_any kd
   rw [ht] at HT
   have HT:=Lib.hid HT
   clear h7 h8 ht
   by_cases hm1:m=0
   · subst hm1
     go_wp2_with (go_at_call 146;((with_reducible refine (HT.out _).mono ?_);rintro e w2 ⟨rfl,rfl⟩))
     go_ret
     exact ⟨by rw [HKD.out,HR.out] <;> rfl,HB.out⟩
   · have em:((m:Int) == 0)=false:=by rw [beq_eq_false_iff_ne];omega
     rw [decide_eq_false hm1] at HR
     go_wp2_with (go_at_call 146;((with_reducible refine (HT.out _).mono ?_);rintro e w2 ⟨rfl,rfl⟩))
     go_ret
     exact ⟨by rw [HKD.out,HR.out];first | rfl | (simp;omega),HB.out⟩
 · have HR:=Lib.hid (show hkB kd m=decide (m=2) by unfold hkB;rw [if_neg h7,if_neg h8,ht,if_pos rfl])
   have HT:=isOfTwo_any kd
   rw [ht] at HT
   have HT:=Lib.hid HT
   clear h7 h8 ht
   by_cases hm1:m=2
   · subst hm1
     go_wp2_with (go_at_call 146;((with_reducible refine (HT.out _).mono ?_);rintro e w2 ⟨rfl,rfl⟩))
     go_ret
     exact ⟨by rw [HKD.out,HR.out] <;> rfl,HB.out⟩
   · have em:((m:Int) == 2)=false:=by rw [beq_eq_false_iff_ne];omega
     rw [decide_eq_false hm1] at HR
     go_wp2_with (go_at_call 146;((with_reducible refine (HT.out _).mono ?_);rintro e w2 ⟨rfl,rfl⟩))
     go_ret
     exact ⟨by rw [HKD.out,HR.out];first | rfl | (simp;omega),HB.out⟩
def namedN (n:Nd):Nd :=
 if n.kind=1 then { Nd.zero with num:=n.num } else if n.kind=2 then { Nd.zero with text:=n.text } else if n.kind=3 then { Nd.zero with num:=n.num }
 else if n.kind=5 then { Nd.zero with ref:=n.ref } else if n.kind=6 then ⟨0,0,⟨#[]⟩,n.ref,n.to,[]⟩ else if n.kind=7 then { Nd.zero with text:=n.text } else Nd.zero
def okF (n:Nd):Bool :=
 if n.kind=1 then decide (0≤n.num) else if n.kind=2 then printB (sb n.text) else if n.kind=3 then decide (n.num=0∨n.num=1)
 else if n.kind=5 then mayRf n.ref else if n.kind=6 then mayRf n.ref&&(mayRf n.to&&spanB n.ref n.to) else if n.kind=7 then callB n.text else decide (n.kind=4∨n.kind=8)||twoB n.kind
theorem res_fields:Tryz.f114.results=#[.cell 2 48,.tmp 3]:=by kernel_rfl
theorem NdAt.load {w:World} {b:Nat} {n:Nd} {k:Value} (h:NdAt w b n k):(loadVar 48 ⟨b,0,none⟩).run Tryz.prog w = .ok (.agg (nodA n k)) w :=
 run_loadVar_row w b 48 48 _ _ _ h Tryz.underlying48 rfl nod_size
theorem out_nod {w:World} {b:Nat} {n:Nd} {k:Value} (h:NdAt w b n k) (fn:Func) (tmps:Array Value) (ok:Bool) (p u:Tmp) (hf:fn.results=#[.cell p 48,.tmp u]) (hp:tmps.getD p undef = .pointer (some ⟨b,0,none⟩)) (hu:tmps.getD u undef = .bool ok) :
 (results fn tmps).run Tryz.prog w = .ok (.tuple #[.agg (nodA n k),.bool ok]) w:=by
 rw [results_cell_tmp hf,hp,hu]
 simp [asAddr,h.load,Result.andThen]
abbrev zNod:Array Value:=#[.int .i64 0,.int .i64 0,.string ⟨#[]⟩,.string ⟨#[]⟩,.int .i64 0,.int .i64 0,.bool false,.bool false,.string ⟨#[]⟩,.int .i64 0,.int .i64 0,.bool false,.bool false,.slice none 0 0]
theorem NdAt.drew {w:World} {b:Nat} {n:Nd} {k:Value} (h:NdAt w b n k):NdAt w.drew b n k:=h
theorem NdAt.frozen {w:World} {b:Nat} {n:Nd} {k:Value} (h:NdAt w b n k) (j:Nat):w.frozen? ⟨b,j,none⟩=false:=frozen_of_row w b j _ _ h
theorem row14 (w:World) (b:Nat) (t:TypeId) (u0 u1 u2 u3 u4 u5 u6 u7 u8 u9 u10 u11 u12 u13 v0 v1 v2 v3 v4 v5 v6 v7 v8 v9 v10 v11 v12 v13:Value) (h:w.heap[b]? = some (.cells #[u0,u1,u2,u3,u4,u5,u6,u7,u8,u9,u10,u11,u12,u13] t)) :
 ((((((((((((((w.setCell ⟨b,0,none⟩ v0).setCell ⟨b,1,none⟩ v1).setCell ⟨b,2,none⟩ v2).setCell ⟨b,3,none⟩ v3).setCell ⟨b,4,none⟩ v4).setCell ⟨b,5,none⟩ v5).setCell ⟨b,6,none⟩ v6).setCell ⟨b,7,none⟩ v7).setCell ⟨b,8,none⟩ v8).setCell ⟨b,9,none⟩ v9).setCell ⟨b,10,none⟩ v10).setCell ⟨b,11,none⟩ v11).setCell ⟨b,12,none⟩ v12).setCell ⟨b,13,none⟩ v13).heap[b]? = some (.cells #[v0,v1,v2,v3,v4,v5,v6,v7,v8,v9,v10,v11,v12,v13] t):=by
 have h0:(w.setCell ⟨b,0,none⟩ v0).heap[b]? = some (.cells #[v0,u1,u2,u3,u4,u5,u6,u7,u8,u9,u10,u11,u12,u13] t):=by rw [heap_setCell_same _ b 0 _ _ _ h];rfl
 have h1:((w.setCell ⟨b,0,none⟩ v0).setCell ⟨b,1,none⟩ v1).heap[b]? = some (.cells #[v0,v1,u2,u3,u4,u5,u6,u7,u8,u9,u10,u11,u12,u13] t):=by rw [heap_setCell_same _ b 1 _ _ _ h0];rfl
 have h2:(((w.setCell ⟨b,0,none⟩ v0).setCell ⟨b,1,none⟩ v1).setCell ⟨b,2,none⟩ v2).heap[b]? = some (.cells #[v0,v1,v2,u3,u4,u5,u6,u7,u8,u9,u10,u11,u12,u13] t):=by rw [heap_setCell_same _ b 2 _ _ _ h1];rfl
 have h3:((((w.setCell ⟨b,0,none⟩ v0).setCell ⟨b,1,none⟩ v1).setCell ⟨b,2,none⟩ v2).setCell ⟨b,3,none⟩ v3).heap[b]? = some (.cells #[v0,v1,v2,v3,u4,u5,u6,u7,u8,u9,u10,u11,u12,u13] t):=by rw [heap_setCell_same _ b 3 _ _ _ h2];rfl
 have h4:(((((w.setCell ⟨b,0,none⟩ v0).setCell ⟨b,1,none⟩ v1).setCell ⟨b,2,none⟩ v2).setCell ⟨b,3,none⟩ v3).setCell ⟨b,4,none⟩ v4).heap[b]? = some (.cells #[v0,v1,v2,v3,v4,u5,u6,u7,u8,u9,u10,u11,u12,u13] t):=by rw [heap_setCell_same _ b 4 _ _ _ h3];rfl
 have h5:((((((w.setCell ⟨b,0,none⟩ v0).setCell ⟨b,1,none⟩ v1).setCell ⟨b,2,none⟩ v2).setCell ⟨b,3,none⟩ v3).setCell ⟨b,4,none⟩ v4).setCell ⟨b,5,none⟩ v5).heap[b]? = some (.cells #[v0,v1,v2,v3,v4,v5,u6,u7,u8,u9,u10,u11,u12,u13] t):=by rw [heap_setCell_same _ b 5 _ _ _ h4];rfl
 have h6:(((((((w.setCell ⟨b,0,none⟩ v0).setCell ⟨b,1,none⟩ v1).setCell ⟨b,2,none⟩ v2).setCell ⟨b,3,none⟩ v3).setCell ⟨b,4,none⟩ v4).setCell ⟨b,5,none⟩ v5).setCell ⟨b,6,none⟩ v6).heap[b]? = some (.cells #[v0,v1,v2,v3,v4,v5,v6,u7,u8,u9,u10,u11,u12,u13] t):=by rw [heap_setCell_same _ b 6 _ _ _ h5];rfl
 have h7:((((((((w.setCell ⟨b,0,none⟩ v0).setCell ⟨b,1,none⟩ v1).setCell ⟨b,2,none⟩ v2).setCell ⟨b,3,none⟩ v3).setCell ⟨b,4,none⟩ v4).setCell ⟨b,5,none⟩ v5).setCell ⟨b,6,none⟩ v6).setCell ⟨b,7,none⟩ v7).heap[b]? = some (.cells #[v0,v1,v2,v3,v4,v5,v6,v7,u8,u9,u10,u11,u12,u13] t):=by rw [heap_setCell_same _ b 7 _ _ _ h6];rfl
 have h8:(((((((((w.setCell ⟨b,0,none⟩ v0).setCell ⟨b,1,none⟩ v1).setCell ⟨b,2,none⟩ v2).setCell ⟨b,3,none⟩ v3).setCell ⟨b,4,none⟩ v4).setCell ⟨b,5,none⟩ v5).setCell ⟨b,6,none⟩ v6).setCell ⟨b,7,none⟩ v7).setCell ⟨b,8,none⟩ v8).heap[b]? = some (.cells #[v0,v1,v2,v3,v4,v5,v6,v7,v8,u9,u10,u11,u12,u13] t):=by rw [heap_setCell_same _ b 8 _ _ _ h7];rfl
 have h9:((((((((((w.setCell ⟨b,0,none⟩ v0).setCell ⟨b,1,none⟩ v1).setCell ⟨b,2,none⟩ v2).setCell ⟨b,3,none⟩ v3).setCell ⟨b,4,none⟩ v4).setCell ⟨b,5,none⟩ v5).setCell ⟨b,6,none⟩ v6).setCell ⟨b,7,none⟩ v7).setCell ⟨b,8,none⟩ v8).setCell ⟨b,9,none⟩ v9).heap[b]? = some (.cells #[v0,v1,v2,v3,v4,v5,v6,v7,v8,v9,u10,u11,u12,u13] t):=by rw [heap_setCell_same _ b 9 _ _ _ h8];rfl
 have h10:(((((((((((w.setCell ⟨b,0,none⟩ v0).setCell ⟨b,1,none⟩ v1).setCell ⟨b,2,none⟩ v2).setCell ⟨b,3,none⟩ v3).setCell ⟨b,4,none⟩ v4).setCell ⟨b,5,none⟩ v5).setCell ⟨b,6,none⟩ v6).setCell ⟨b,7,none⟩ v7).setCell ⟨b,8,none⟩ v8).setCell ⟨b,9,none⟩ v9).setCell ⟨b,10,none⟩ v10).heap[b]? = some (.cells #[v0,v1,v2,v3,v4,v5,v6,v7,v8,v9,v10,u11,u12,u13] t):=by rw [heap_setCell_same _ b 10 _ _ _ h9];rfl
 have h11:((((((((((((w.setCell ⟨b,0,none⟩ v0).setCell ⟨b,1,none⟩ v1).setCell ⟨b,2,none⟩ v2).setCell ⟨b,3,none⟩ v3).setCell ⟨b,4,none⟩ v4).setCell ⟨b,5,none⟩ v5).setCell ⟨b,6,none⟩ v6).setCell ⟨b,7,none⟩ v7).setCell ⟨b,8,none⟩ v8).setCell ⟨b,9,none⟩ v9).setCell ⟨b,10,none⟩ v10).setCell ⟨b,11,none⟩ v11).heap[b]? = some (.cells #[v0,v1,v2,v3,v4,v5,v6,v7,v8,v9,v10,v11,u12,u13] t):=by rw [heap_setCell_same _ b 11 _ _ _ h10];rfl
 have h12:(((((((((((((w.setCell ⟨b,0,none⟩ v0).setCell ⟨b,1,none⟩ v1).setCell ⟨b,2,none⟩ v2).setCell ⟨b,3,none⟩ v3).setCell ⟨b,4,none⟩ v4).setCell ⟨b,5,none⟩ v5).setCell ⟨b,6,none⟩ v6).setCell ⟨b,7,none⟩ v7).setCell ⟨b,8,none⟩ v8).setCell ⟨b,9,none⟩ v9).setCell ⟨b,10,none⟩ v10).setCell ⟨b,11,none⟩ v11).setCell ⟨b,12,none⟩ v12).heap[b]? = some (.cells #[v0,v1,v2,v3,v4,v5,v6,v7,v8,v9,v10,v11,v12,u13] t):=by rw [heap_setCell_same _ b 12 _ _ _ h11];rfl
 have h13:((((((((((((((w.setCell ⟨b,0,none⟩ v0).setCell ⟨b,1,none⟩ v1).setCell ⟨b,2,none⟩ v2).setCell ⟨b,3,none⟩ v3).setCell ⟨b,4,none⟩ v4).setCell ⟨b,5,none⟩ v5).setCell ⟨b,6,none⟩ v6).setCell ⟨b,7,none⟩ v7).setCell ⟨b,8,none⟩ v8).setCell ⟨b,9,none⟩ v9).setCell ⟨b,10,none⟩ v10).setCell ⟨b,11,none⟩ v11).setCell ⟨b,12,none⟩ v12).setCell ⟨b,13,none⟩ v13).heap[b]? = some (.cells #[v0,v1,v2,v3,v4,v5,v6,v7,v8,v9,v10,v11,v12,v13] t):=by rw [heap_setCell_same _ b 13 _ _ _ h12];rfl
 exact h13
theorem NdAt.put14 {w:World} {b:Nat} {n0:Nd} {k0:Value} (h:NdAt w b n0 k0) (n:Nd) (k:Value):NdAt ((((((((((((((w.setCell ⟨b,0,none⟩ (.int .i64 n.kind)).setCell ⟨b,1,none⟩ (.int .i64 n.num)).setCell ⟨b,2,none⟩ (.string n.text)).setCell ⟨b,3,none⟩ (.string n.ref.sh)).setCell ⟨b,4,none⟩ (.int .i64 n.ref.c)).setCell ⟨b,5,none⟩ (.int .i64 n.ref.r)).setCell ⟨b,6,none⟩ (.bool n.ref.ac)).setCell ⟨b,7,none⟩ (.bool n.ref.ar)).setCell ⟨b,8,none⟩ (.string n.to.sh)).setCell ⟨b,9,none⟩ (.int .i64 n.to.c)).setCell ⟨b,10,none⟩ (.int .i64 n.to.r)).setCell ⟨b,11,none⟩ (.bool n.to.ac)).setCell ⟨b,12,none⟩ (.bool n.to.ar)).setCell ⟨b,13,none⟩ (k)) b n k:=row14 w b _ _ _ _ _ _ _ _ _ _ _ _ _ _ _ _ _ _ _ _ _ _ _ _ _ _ _ _ _ h
theorem below_set14 {B:Nat} {a w:World} {b:Nat} (h:Below B a w) (hb:B≤b) (v0 v1 v2 v3 v4 v5 v6 v7 v8 v9 v10 v11 v12 v13:Value):Below B a ((((((((((((((w.setCell ⟨b,0,none⟩ v0).setCell ⟨b,1,none⟩ v1).setCell ⟨b,2,none⟩ v2).setCell ⟨b,3,none⟩ v3).setCell ⟨b,4,none⟩ v4).setCell ⟨b,5,none⟩ v5).setCell ⟨b,6,none⟩ v6).setCell ⟨b,7,none⟩ v7).setCell ⟨b,8,none⟩ v8).setCell ⟨b,9,none⟩ v9).setCell ⟨b,10,none⟩ v10).setCell ⟨b,11,none⟩ v11).setCell ⟨b,12,none⟩ v12).setCell ⟨b,13,none⟩ v13) :=
 ((((((((((((((h.setCell hb _).setCell hb _).setCell hb _).setCell hb _).setCell hb _).setCell hb _).setCell hb _).setCell hb _).setCell hb _).setCell hb _).setCell hb _).setCell hb _).setCell hb _).setCell hb _)
set_option maxRecDepth 100000 in
set_option maxHeartbeats 1600000 in
theorem fields_1 (n:Nd) (h1:n.kind=1) (A:Option Addr) (m c:Nat) (w:World):Calls Tryz.prog 114 #[.agg #[.int .i64 n.kind,.int .i64 n.num,.string n.text,.string n.ref.sh,.int .i64 n.ref.c,.int .i64 n.ref.r,.bool n.ref.ac,.bool n.ref.ar,.string n.to.sh,.int .i64 n.to.c,.int .i64 n.to.r,.bool n.to.ac,.bool n.to.ar,.slice A m c]] w fun e w'=>e = .returned (.tuple #[.agg (nodA { Nd.zero with num:=n.num } (.slice none 0 0)),.bool (decide (0≤n.num))])∧Below w.heap.size w w':=by
 have hsz:(w.alloc (.cells #[.int .i64 n.kind,.int .i64 n.num,.string n.text,.string n.ref.sh,.int .i64 n.ref.c,.int .i64 n.ref.r,.bool n.ref.ac,.bool n.ref.ar,.string n.to.sh,.int .i64 n.to.c,.int .i64 n.to.r,.bool n.to.ac,.bool n.to.ar,.slice A m c] 48)).heap.size=w.heap.size+1:=by simp
 have hx:NdAt (w.alloc (.cells #[.int .i64 n.kind,.int .i64 n.num,.string n.text,.string n.ref.sh,.int .i64 n.ref.c,.int .i64 n.ref.r,.bool n.ref.ac,.bool n.ref.ar,.string n.to.sh,.int .i64 n.to.c,.int .i64 n.to.r,.bool n.to.ac,.bool n.to.ar,.slice A m c] 48)) w.heap.size n (.slice A m c):=NdAt.new w n _
 have hy:NdAt ((w.alloc (.cells #[.int .i64 n.kind,.int .i64 n.num,.string n.text,.string n.ref.sh,.int .i64 n.ref.c,.int .i64 n.ref.r,.bool n.ref.ac,.bool n.ref.ar,.string n.to.sh,.int .i64 n.to.c,.int .i64 n.to.r,.bool n.to.ac,.bool n.to.ar,.slice A m c] 48)).alloc (.cells zNod 48)) (w.heap.size+1) Nd.zero (.slice none 0 0):=by rw [← hsz];exact NdAt.new _ Nd.zero _
 have hx2:=hx.below ((Below.refl _ _).alloc (Nat.le_refl _) (.cells zNod 48)) hx.lt
 have HB:=Lib.hid (((Below.refl w.heap.size w).alloc (Nat.le_refl _) (.cells #[.int .i64 n.kind,.int .i64 n.num,.string n.text,.string n.ref.sh,.int .i64 n.ref.c,.int .i64 n.ref.r,.bool n.ref.ac,.bool n.ref.ar,.string n.to.sh,.int .i64 n.to.c,.int .i64 n.to.r,.bool n.to.ac,.bool n.to.ar,.slice A m c] 48)).alloc (by simp) (.cells zNod 48))
 have e1:(n.kind == 1)=true:=beq_iff_eq.2 h1
 clear h1
 go_enter Tryz.func114,Tryz.ntmps114
 go_upto_region 3 with (fail)
 generalize (w.alloc (.cells #[.int .i64 n.kind,.int .i64 n.num,.string n.text,.string n.ref.sh,.int .i64 n.ref.c,.int .i64 n.ref.r,.bool n.ref.ac,.bool n.ref.ar,.string n.to.sh,.int .i64 n.to.c,.int .i64 n.to.r,.bool n.to.ac,.bool n.to.ar,.slice A m c] 48)).alloc (.cells zNod 48)=w1 at hx2 hy HB ⊢
 obtain ⟨x0,x1,x2,x3,x4,x5,x6,x7,x8,x9,x10,x11,x12,x13⟩:=hx2.cells
 obtain ⟨y0,y1,y2,y3,y4,y5,y6,y7,y8,y9,y10,y11,y12,y13⟩:=hy.cells
 have f0:=hy.frozen 0
 have f1:=hy.frozen 1
 have f2:=hy.frozen 2
 have f3:=hy.frozen 3
 have f4:=hy.frozen 4
 have f5:=hy.frozen 5
 have f6:=hy.frozen 6
 have f7:=hy.frozen 7
 have f8:=hy.frozen 8
 have f9:=hy.frozen 9
 have f10:=hy.frozen 10
 have f11:=hy.frozen 11
 have f12:=hy.frozen 12
 have f13:=hy.frozen 13
 have HY:=Lib.hid hy
 clear hx hx2 hy
 go_region
 all_goals go_wp2_with fail
 all_goals exact bodyPost_ret (out_nod (HY.out.put14 { Nd.zero with num:=n.num } (.slice none 0 0)).drew _ _ _ 2 3 res_fields rfl rfl) rfl ⟨rfl,(below_set14 HB.out (by omega) _ _ _ _ _ _ _ _ _ _ _ _ _ _).drew⟩
theorem NdAt.melts {w:World} {b:Nat} {n:Nd} {k:Value} (h:NdAt w b n k):w.frozen? ⟨b,0,none⟩=false∧w.frozen? ⟨b,1,none⟩=false∧w.frozen? ⟨b,2,none⟩=false∧w.frozen? ⟨b,3,none⟩=false∧w.frozen? ⟨b,4,none⟩=false∧w.frozen? ⟨b,5,none⟩=false∧w.frozen? ⟨b,6,none⟩=false∧w.frozen? ⟨b,7,none⟩=false∧w.frozen? ⟨b,8,none⟩=false∧w.frozen? ⟨b,9,none⟩=false∧w.frozen? ⟨b,10,none⟩=false∧w.frozen? ⟨b,11,none⟩=false∧w.frozen? ⟨b,12,none⟩=false∧w.frozen? ⟨b,13,none⟩=false :=
 ⟨h.frozen 0,h.frozen 1,h.frozen 2,h.frozen 3,h.frozen 4,h.frozen 5,h.frozen 6,h.frozen 7,h.frozen 8,h.frozen 9,h.frozen 10,h.frozen 11,h.frozen 12,h.frozen 13⟩
theorem nod2 (w:World) (n:Nd) (A:Option Addr) (m c:Nat):∃ w1,(w.alloc (.cells #[.int .i64 n.kind,.int .i64 n.num,.string n.text,.string n.ref.sh,.int .i64 n.ref.c,.int .i64 n.ref.r,.bool n.ref.ac,.bool n.ref.ar,.string n.to.sh,.int .i64 n.to.c,.int .i64 n.to.r,.bool n.to.ac,.bool n.to.ar,.slice A m c] 48)).alloc (.cells zNod 48)=w1∧NdAt w1 w.heap.size n (.slice A m c)∧NdAt w1 (w.heap.size+1) Nd.zero (.slice none 0 0)∧Below w.heap.size w w1∧w.heap.size+1<w1.heap.size:=by
 have hx:=NdAt.new w n (.slice A m c)
 obtain ⟨wa,hwa⟩:∃ wa,w.alloc (.cells #[.int .i64 n.kind,.int .i64 n.num,.string n.text,.string n.ref.sh,.int .i64 n.ref.c,.int .i64 n.ref.r,.bool n.ref.ac,.bool n.ref.ar,.string n.to.sh,.int .i64 n.to.c,.int .i64 n.to.r,.bool n.to.ac,.bool n.to.ar,.slice A m c] 48)=wa:=⟨_,rfl⟩
 have hba:Below w.heap.size w wa:=by rw [← hwa];exact (Below.refl _ _).alloc (Nat.le_refl _) _
 have hz:wa.heap.size=w.heap.size+1:=by rw [← hwa,World.size_alloc]
 have hx1:NdAt wa w.heap.size n (.slice A m c):=by rw [← hwa];exact hx
 have hb:Below wa.heap.size wa (wa.alloc (.cells zNod 48)):=(Below.refl _ _).alloc (Nat.le_refl _) _
 have hy:=NdAt.new wa Nd.zero (.slice none 0 0)
 rw [hz] at hy
 refine ⟨wa.alloc (.cells zNod 48),by rw [hwa],hx1.below hb hx1.lt,hy,hba.trans (hb.mono hba.size),by rw [World.size_alloc,hz];exact Nat.lt_succ_self _⟩
set_option maxRecDepth 100000 in
set_option maxHeartbeats 4000000 in
theorem fields_2 (w:World) (n:Nd) (h2:n.kind=2) (hs:n.text.size≤1000000) (A:Option Addr) (m c:Nat):Calls Tryz.prog 114 #[.agg #[.int .i64 n.kind,.int .i64 n.num,.string n.text,.string n.ref.sh,.int .i64 n.ref.c,.int .i64 n.ref.r,.bool n.ref.ac,.bool n.ref.ar,.string n.to.sh,.int .i64 n.to.c,.int .i64 n.to.r,.bool n.to.ac,.bool n.to.ar,.slice A m c]] w fun e w'=>e = .returned (.tuple #[.agg (nodA { Nd.zero with text:=n.text } (.slice none 0 0)),.bool (printB (sb n.text))])∧Below w.heap.size w w':=by
 obtain ⟨w1,hw1,hx2,hy,hb,hb2⟩:=nod2 w n A m c
 have HB:=Lib.hid hb
 obtain ⟨x0,x1,x2,x3,x4,x5,x6,x7,x8,x9,x10,x11,x12,x13⟩:=hx2.cells
 have e1:(n.kind == 1)=false:=by rw [h2];rfl
 have e2:(n.kind == 2)=true:=beq_iff_eq.2 h2
 clear h2
 go_enter Tryz.func114,Tryz.ntmps114
 go_upto_region 5 with (fail)
 clear hw1 hb
 obtain ⟨y0,y1,y2,y3,y4,y5,y6,y7,y8,y9,y10,y11,y12,y13⟩:=hy.cells
 obtain ⟨f0,f1,f2,f3,f4,f5,f6,f7,f8,f9,f10,f11,f12,f13⟩:=hy.melts
 have HY:=Lib.hid hy
 have HX:=Lib.hid hx2
 clear hx2 hy
 have HT:=Lib.hid (fun w=>isText_any n.text w hs)
 go_region_with (go_at_call 143;((with_reducible refine (HT.out _).mono ?_);rintro e w2 ⟨rfl,rfl⟩))
 all_goals go_wp2_with fail
 all_goals exact bodyPost_ret (out_nod (HY.out.put14 { Nd.zero with text:=n.text } (.slice none 0 0)).drew _ _ _ 2 3 res_fields rfl rfl) rfl ⟨rfl,(below_set14 HB.out (by have:=HB.out.size;omega) _ _ _ _ _ _ _ _ _ _ _ _ _ _).drew⟩
set_option maxRecDepth 100000 in
set_option maxHeartbeats 4000000 in
theorem fields_3a (w:World) (n:Nd) (h3:n.kind=3) (h0:n.num=0) (A:Option Addr) (m c:Nat):Calls Tryz.prog 114 #[.agg #[.int .i64 n.kind,.int .i64 n.num,.string n.text,.string n.ref.sh,.int .i64 n.ref.c,.int .i64 n.ref.r,.bool n.ref.ac,.bool n.ref.ar,.string n.to.sh,.int .i64 n.to.c,.int .i64 n.to.r,.bool n.to.ac,.bool n.to.ar,.slice A m c]] w fun e w'=>e = .returned (.tuple #[.agg (nodA { Nd.zero with num:=n.num } (.slice none 0 0)),.bool true])∧Below w.heap.size w w':=by
 obtain ⟨w1,hw1,hx2,hy,hb,hb2⟩:=nod2 w n A m c
 have HB:=Lib.hid hb
 obtain ⟨x0,x1,x2,x3,x4,x5,x6,x7,x8,x9,x10,x11,x12,x13⟩:=hx2.cells
 have e1:(n.kind == 1)=false:=by rw [h3];rfl
 have e2:(n.kind == 2)=false:=by rw [h3];rfl
 have e3:(n.kind == 3)=true:=beq_iff_eq.2 h3
 clear h3
 have q0:(n.num == 0)=true:=beq_iff_eq.2 h0
 clear h0
 go_enter Tryz.func114,Tryz.ntmps114
 go_upto_region 7 with (fail)
 clear hw1 hb
 obtain ⟨y0,y1,y2,y3,y4,y5,y6,y7,y8,y9,y10,y11,y12,y13⟩:=hy.cells
 obtain ⟨f0,f1,f2,f3,f4,f5,f6,f7,f8,f9,f10,f11,f12,f13⟩:=hy.melts
 have HY:=Lib.hid hy
 have HX:=Lib.hid hx2
 clear hx2 hy
 go_region
 all_goals go_wp2_with fail
 all_goals exact bodyPost_ret (out_nod (HY.out.put14 { Nd.zero with num:=n.num } (.slice none 0 0)).drew _ _ _ 2 3 res_fields rfl rfl) rfl ⟨rfl,(below_set14 HB.out (by have:=HB.out.size;omega) _ _ _ _ _ _ _ _ _ _ _ _ _ _).drew⟩
set_option maxRecDepth 100000 in
set_option maxHeartbeats 4000000 in
theorem fields_3b (w:World) (n:Nd) (h3:n.kind=3) (h0:n.num=1) (A:Option Addr) (m c:Nat):Calls Tryz.prog 114 #[.agg #[.int .i64 n.kind,.int .i64 n.num,.string n.text,.string n.ref.sh,.int .i64 n.ref.c,.int .i64 n.ref.r,.bool n.ref.ac,.bool n.ref.ar,.string n.to.sh,.int .i64 n.to.c,.int .i64 n.to.r,.bool n.to.ac,.bool n.to.ar,.slice A m c]] w fun e w'=>e = .returned (.tuple #[.agg (nodA { Nd.zero with num:=n.num } (.slice none 0 0)),.bool true])∧Below w.heap.size w w':=by
 obtain ⟨w1,hw1,hx2,hy,hb,hb2⟩:=nod2 w n A m c
 have HB:=Lib.hid hb
 obtain ⟨x0,x1,x2,x3,x4,x5,x6,x7,x8,x9,x10,x11,x12,x13⟩:=hx2.cells
 have e1:(n.kind == 1)=false:=by rw [h3];rfl
 have e2:(n.kind == 2)=false:=by rw [h3];rfl
 have e3:(n.kind == 3)=true:=beq_iff_eq.2 h3
 clear h3
 have q0:(n.num == 0)=false:=by rw [h0];rfl
 have q1:(n.num == 1)=true:=beq_iff_eq.2 h0
 clear h0
 go_enter Tryz.func114,Tryz.ntmps114
 go_upto_region 7 with (fail)
 clear hw1 hb
 obtain ⟨y0,y1,y2,y3,y4,y5,y6,y7,y8,y9,y10,y11,y12,y13⟩:=hy.cells
 obtain ⟨f0,f1,f2,f3,f4,f5,f6,f7,f8,f9,f10,f11,f12,f13⟩:=hy.melts
 have HY:=Lib.hid hy
 have HX:=Lib.hid hx2
 clear hx2 hy
 go_region
 all_goals go_wp2_with fail
 all_goals exact bodyPost_ret (out_nod (HY.out.put14 { Nd.zero with num:=n.num } (.slice none 0 0)).drew _ _ _ 2 3 res_fields rfl rfl) rfl ⟨rfl,(below_set14 HB.out (by have:=HB.out.size;omega) _ _ _ _ _ _ _ _ _ _ _ _ _ _).drew⟩
set_option maxRecDepth 100000 in
set_option maxHeartbeats 4000000 in
theorem fields_5 (w:World) (n:Nd) (h5:n.kind=5) (hs:n.ref.sh.size≤1000000) (A:Option Addr) (m c:Nat):Calls Tryz.prog 114 #[.agg #[.int .i64 n.kind,.int .i64 n.num,.string n.text,.string n.ref.sh,.int .i64 n.ref.c,.int .i64 n.ref.r,.bool n.ref.ac,.bool n.ref.ar,.string n.to.sh,.int .i64 n.to.c,.int .i64 n.to.r,.bool n.to.ac,.bool n.to.ar,.slice A m c]] w fun e w'=>e = .returned (.tuple #[.agg (nodA { Nd.zero with ref:=n.ref } (.slice none 0 0)),.bool (mayRf n.ref)])∧Below w.heap.size w w':=by
 obtain ⟨w1,hw1,hx2,hy,hb,hb2⟩:=nod2 w n A m c
 have HB:=Lib.hid hb
 obtain ⟨x0,x1,x2,x3,x4,x5,x6,x7,x8,x9,x10,x11,x12,x13⟩:=hx2.cells
 have e1:(n.kind == 1)=false:=by rw [h5];rfl
 have e2:(n.kind == 2)=false:=by rw [h5];rfl
 have e3:(n.kind == 3)=false:=by rw [h5];rfl
 have e5:(n.kind == 5)=true:=beq_iff_eq.2 h5
 clear h5
 go_enter Tryz.func114,Tryz.ntmps114
 go_upto_region 9 with (fail)
 clear hw1 hb
 obtain ⟨y0,y1,y2,y3,y4,y5,y6,y7,y8,y9,y10,y11,y12,y13⟩:=hy.cells
 obtain ⟨f0,f1,f2,f3,f4,f5,f6,f7,f8,f9,f10,f11,f12,f13⟩:=hy.melts
 have HY:=Lib.hid hy
 have HX:=Lib.hid hx2
 clear hx2 hy
 have HT:=Lib.hid (fun w=>may_any n.ref.sh n.ref.c n.ref.r n.ref.ac n.ref.ar w hs)
 go_region_held3 (fun w'=>w'.cell? ⟨w.heap.size,3,none⟩=some (.string n.ref.sh)∧w'.cell? ⟨w.heap.size,4,none⟩=some (.int .i64 n.ref.c)∧w'.cell? ⟨w.heap.size,5,none⟩=some (.int .i64 n.ref.r)∧w'.cell? ⟨w.heap.size,6,none⟩=some (.bool n.ref.ac)∧w'.cell? ⟨w.heap.size,7,none⟩=some (.bool n.ref.ar)) (go_keep) (first | (go_at_call 119;((with_reducible refine (HT.out _).mono ?_);rintro e w2 ⟨rfl,h1⟩;have HY2:=Lib.hid (HY.out.drew.below h1 HY.out.lt);have HX2:=Lib.hid (HX.out.drew.below h1 HX.out.lt);have HB2:=Lib.hid (HB.out.drew.trans (h1.mono HB.out.size));obtain ⟨z0,z1,z2,z3,z4,z5,z6,z7,z8,z9,z10,z11,z12,z13⟩:=HY2.out.cells;obtain ⟨g0,g1,g2,g3,g4,g5,g6,g7,g8,g9,g10,g11,g12,g13⟩:=HY2.out.melts;obtain ⟨t0,t1,t2,t3,t4,t5,t6,t7,t8,t9,t10,t11,t12,t13⟩:=HX2.out.cells;clear h1)))
 all_goals go_wp2_with fail
 all_goals exact bodyPost_ret (out_nod (HY2.out.put14 { Nd.zero with ref:=n.ref } (.slice none 0 0)) _ _ _ 2 3 res_fields rfl rfl) rfl ⟨rfl,below_set14 HB2.out (by have:=HB.out.size;omega) _ _ _ _ _ _ _ _ _ _ _ _ _ _⟩
set_option maxRecDepth 100000 in
set_option maxHeartbeats 4000000 in
theorem fields_7 (w:World) (n:Nd) (h7:n.kind=7) (hv:Vars w) (A:Option Addr) (m c:Nat):Calls Tryz.prog 114 #[.agg #[.int .i64 n.kind,.int .i64 n.num,.string n.text,.string n.ref.sh,.int .i64 n.ref.c,.int .i64 n.ref.r,.bool n.ref.ac,.bool n.ref.ar,.string n.to.sh,.int .i64 n.to.c,.int .i64 n.to.r,.bool n.to.ac,.bool n.to.ar,.slice A m c]] w fun e w'=>e = .returned (.tuple #[.agg (nodA { Nd.zero with text:=n.text } (.slice none 0 0)),.bool (callB n.text)])∧Below w.heap.size w w':=by
 obtain ⟨w1,hw1,hx2,hy,hb,hb2⟩:=nod2 w n A m c
 have HB:=Lib.hid hb
 obtain ⟨x0,x1,x2,x3,x4,x5,x6,x7,x8,x9,x10,x11,x12,x13⟩:=hx2.cells
 have e1:(n.kind == 1)=false:=by rw [h7];rfl
 have e2:(n.kind == 2)=false:=by rw [h7];rfl
 have e3:(n.kind == 3)=false:=by rw [h7];rfl
 have e5:(n.kind == 5)=false:=by rw [h7];rfl
 have e6:(n.kind == 6)=false:=by rw [h7];rfl
 have e7:(n.kind == 7)=true:=beq_iff_eq.2 h7
 clear h7
 have HVV:=Lib.hid hv;clear hv
 go_enter Tryz.func114,Tryz.ntmps114
 go_upto_region 13 with (fail)
 clear hw1 hb
 obtain ⟨y0,y1,y2,y3,y4,y5,y6,y7,y8,y9,y10,y11,y12,y13⟩:=hy.cells
 obtain ⟨f0,f1,f2,f3,f4,f5,f6,f7,f8,f9,f10,f11,f12,f13⟩:=hy.melts
 have HY:=Lib.hid hy
 have HX:=Lib.hid hx2
 clear hx2 hy
 have HT:=Lib.hid (fun wr (hb:Below w.heap.size w wr)=>isName5_any n.text wr (HVV.out.below hb))
 go_region_held3 (fun w'=>w'.cell? ⟨w.heap.size,2,none⟩=some (.string n.text)) (go_keep) (first | (go_at_call 145;((with_reducible refine (HT.out _ HB.out.drew).mono ?_);rintro e w2 ⟨rfl,h1⟩;have HY2:=Lib.hid (HY.out.drew.below h1 HY.out.lt);have HX2:=Lib.hid (HX.out.drew.below h1 HX.out.lt);have HB2:=Lib.hid (HB.out.drew.trans (h1.mono HB.out.size));clear h1;obtain ⟨z0,z1,z2,z3,z4,z5,z6,z7,z8,z9,z10,z11,z12,z13⟩:=HY2.out.cells;obtain ⟨g0,g1,g2,g3,g4,g5,g6,g7,g8,g9,g10,g11,g12,g13⟩:=HY2.out.melts;obtain ⟨t0,t1,t2,t3,t4,t5,t6,t7,t8,t9,t10,t11,t12,t13⟩:=HX2.out.cells)))
 all_goals go_wp2_with fail
 all_goals exact bodyPost_ret (out_nod (HY2.out.put14 { Nd.zero with text:=n.text } (.slice none 0 0)) _ _ _ 2 3 res_fields rfl rfl) rfl ⟨rfl,below_set14 HB2.out (by have:=HB.out.size;omega) _ _ _ _ _ _ _ _ _ _ _ _ _ _⟩
set_option maxRecDepth 100000 in
set_option maxHeartbeats 4000000 in
theorem fields_6c (w:World) (n:Nd) (h6:n.kind=6) (hs:n.ref.sh.size≤1000000) (ht:n.to.sh.size≤1000000) (q1:mayRf n.ref=true) (q2:mayRf n.to=true) (A:Option Addr) (m c:Nat):Calls Tryz.prog 114 #[.agg #[.int .i64 n.kind,.int .i64 n.num,.string n.text,.string n.ref.sh,.int .i64 n.ref.c,.int .i64 n.ref.r,.bool n.ref.ac,.bool n.ref.ar,.string n.to.sh,.int .i64 n.to.c,.int .i64 n.to.r,.bool n.to.ac,.bool n.to.ar,.slice A m c]] w fun e w'=>e = .returned (.tuple #[.agg (nodA ⟨0,0,⟨#[]⟩,n.ref,n.to,[]⟩ (.slice none 0 0)),.bool (spanB n.ref n.to)])∧Below w.heap.size w w':=by
 obtain ⟨w1,hw1,hx2,hy,hb,hb2⟩:=nod2 w n A m c
 have HB:=Lib.hid hb
 obtain ⟨x0,x1,x2,x3,x4,x5,x6,x7,x8,x9,x10,x11,x12,x13⟩:=hx2.cells
 have e1:(n.kind == 1)=false:=by rw [h6];rfl
 have e2:(n.kind == 2)=false:=by rw [h6];rfl
 have e3:(n.kind == 3)=false:=by rw [h6];rfl
 have e5:(n.kind == 5)=false:=by rw [h6];rfl
 have e6:(n.kind == 6)=true:=beq_iff_eq.2 h6
 clear h6
 go_enter Tryz.func114,Tryz.ntmps114
 go_upto_region 11 with (fail)
 clear hw1 hb
 obtain ⟨y0,y1,y2,y3,y4,y5,y6,y7,y8,y9,y10,y11,y12,y13⟩:=hy.cells
 obtain ⟨f0,f1,f2,f3,f4,f5,f6,f7,f8,f9,f10,f11,f12,f13⟩:=hy.melts
 have HY:=Lib.hid hy
 have HX:=Lib.hid hx2
 clear hx2 hy
 have HT1:=Lib.hid (show ∀ w,Calls Tryz.prog 119 #[.agg #[.string n.ref.sh,.int .i64 n.ref.c,.int .i64 n.ref.r,.bool n.ref.ac,.bool n.ref.ar]] w fun e w'=>e = .returned (.bool true)∧Below w.heap.size w w' from fun w=>by rw [← q1];exact may_any n.ref.sh n.ref.c n.ref.r n.ref.ac n.ref.ar w hs)
 have HT2:=Lib.hid (show ∀ w,Calls Tryz.prog 119 #[.agg #[.string n.to.sh,.int .i64 n.to.c,.int .i64 n.to.r,.bool n.to.ac,.bool n.to.ar]] w fun e w'=>e = .returned (.bool true)∧Below w.heap.size w w' from fun w=>by rw [← q2];exact may_any n.to.sh n.to.c n.to.r n.to.ac n.to.ar w ht)
 have HT3:=Lib.hid (fun w=>isRange_any n.ref.sh n.to.sh n.ref.c n.ref.r n.to.c n.to.r n.ref.ac n.ref.ar n.to.ac n.to.ar w)
 first
  | go_region_held3 (fun w'=>w'.cell? ⟨w.heap.size,3,none⟩=some (.string n.ref.sh)∧w'.cell? ⟨w.heap.size,4,none⟩=some (.int .i64 n.ref.c)∧w'.cell? ⟨w.heap.size,5,none⟩=some (.int .i64 n.ref.r)∧w'.cell? ⟨w.heap.size,6,none⟩=some (.bool n.ref.ac)∧w'.cell? ⟨w.heap.size,7,none⟩=some (.bool n.ref.ar)∧w'.cell? ⟨w.heap.size,8,none⟩=some (.string n.to.sh)∧w'.cell? ⟨w.heap.size,9,none⟩=some (.int .i64 n.to.c)∧w'.cell? ⟨w.heap.size,10,none⟩=some (.int .i64 n.to.r)∧w'.cell? ⟨w.heap.size,11,none⟩=some (.bool n.to.ac)∧w'.cell? ⟨w.heap.size,12,none⟩=some (.bool n.to.ar)) (go_keep) (first | (go_at_call 119;((with_reducible refine (HT1.out _).mono ?_);rintro e w2 ⟨rfl,h1⟩;have HY2:=Lib.hid (HY.out.drew.below h1 HY.out.lt);have HX2:=Lib.hid (HX.out.drew.below h1 HX.out.lt);have HB2:=Lib.hid (HB.out.drew.trans (h1.mono HB.out.size));clear h1;obtain ⟨z0,z1,z2,z3,z4,z5,z6,z7,z8,z9,z10,z11,z12,z13⟩:=HY2.out.cells;obtain ⟨g0,g1,g2,g3,g4,g5,g6,g7,g8,g9,g10,g11,g12,g13⟩:=HY2.out.melts;obtain ⟨t0,t1,t2,t3,t4,t5,t6,t7,t8,t9,t10,t11,t12,t13⟩:=HX2.out.cells)) | (go_at_call 119;((with_reducible refine (HT2.out _).mono ?_);rintro e w3 ⟨rfl,h1⟩;have HY3:=Lib.hid (HY2.out.below h1 HY2.out.lt);have HX3:=Lib.hid (HX2.out.below h1 HX2.out.lt);have HB3:=Lib.hid (HB2.out.trans (h1.mono HB2.out.size));clear h1;obtain ⟨z0,z1,z2,z3,z4,z5,z6,z7,z8,z9,z10,z11,z12,z13⟩:=HY3.out.cells;obtain ⟨g0,g1,g2,g3,g4,g5,g6,g7,g8,g9,g10,g11,g12,g13⟩:=HY3.out.melts;obtain ⟨t0,t1,t2,t3,t4,t5,t6,t7,t8,t9,t10,t11,t12,t13⟩:=HX3.out.cells)) | (go_at_call 144;((with_reducible refine (HT3.out _).mono ?_);rintro e w4 ⟨rfl,h1⟩;have HY4:=Lib.hid (HY3.out.below h1 HY3.out.lt);have HX4:=Lib.hid (HX3.out.below h1 HX3.out.lt);have HB4:=Lib.hid (HB3.out.trans (h1.mono HB3.out.size));clear h1;obtain ⟨z0,z1,z2,z3,z4,z5,z6,z7,z8,z9,z10,z11,z12,z13⟩:=HY4.out.cells;obtain ⟨g0,g1,g2,g3,g4,g5,g6,g7,g8,g9,g10,g11,g12,g13⟩:=HY4.out.melts;obtain ⟨t0,t1,t2,t3,t4,t5,t6,t7,t8,t9,t10,t11,t12,t13⟩:=HX4.out.cells)))
  | fail
 all_goals go_wp2_with fail
 all_goals exact bodyPost_ret (out_nod (HY4.out.put14 ⟨0,0,⟨#[]⟩,n.ref,n.to,[]⟩ (.slice none 0 0)) _ _ _ 2 3 res_fields rfl rfl) rfl ⟨rfl,below_set14 HB4.out (by have:=HB.out.size;omega) _ _ _ _ _ _ _ _ _ _ _ _ _ _⟩
set_option maxRecDepth 100000 in
set_option maxHeartbeats 4000000 in
theorem fields_0a (w:World) (n:Nd) (h1:¬ n.kind=1) (h2:¬ n.kind=2) (h3:¬ n.kind=3) (h5:¬ n.kind=5) (h6:¬ n.kind=6) (h7:¬ n.kind=7) (h4:n.kind=4) (A:Option Addr) (m c:Nat):Calls Tryz.prog 114 #[.agg #[.int .i64 n.kind,.int .i64 n.num,.string n.text,.string n.ref.sh,.int .i64 n.ref.c,.int .i64 n.ref.r,.bool n.ref.ac,.bool n.ref.ar,.string n.to.sh,.int .i64 n.to.c,.int .i64 n.to.r,.bool n.to.ac,.bool n.to.ar,.slice A m c]] w fun e w'=>e = .returned (.tuple #[.agg (nodA Nd.zero (.slice none 0 0)),.bool true])∧Below w.heap.size w w':=by
 obtain ⟨w1,hw1,hx2,hy,hb,hb2⟩:=nod2 w n A m c
 have HB:=Lib.hid hb
 obtain ⟨x0,x1,x2,x3,x4,x5,x6,x7,x8,x9,x10,x11,x12,x13⟩:=hx2.cells
 have e1:(n.kind == 1)=false:=beq_eq_false_iff_ne.2 h1
 have e2:(n.kind == 2)=false:=beq_eq_false_iff_ne.2 h2
 have e3:(n.kind == 3)=false:=beq_eq_false_iff_ne.2 h3
 have e5:(n.kind == 5)=false:=beq_eq_false_iff_ne.2 h5
 have e6:(n.kind == 6)=false:=beq_eq_false_iff_ne.2 h6
 have e7:(n.kind == 7)=false:=beq_eq_false_iff_ne.2 h7
 clear h1 h2 h3 h5 h6 h7
 have e4:(n.kind == 4)=true:=beq_iff_eq.2 h4
 clear h4
 go_enter Tryz.func114,Tryz.ntmps114
 go_upto_region 14 with (fail)
 clear hw1 hb
 obtain ⟨y0,y1,y2,y3,y4,y5,y6,y7,y8,y9,y10,y11,y12,y13⟩:=hy.cells
 obtain ⟨f0,f1,f2,f3,f4,f5,f6,f7,f8,f9,f10,f11,f12,f13⟩:=hy.melts
 have HY:=Lib.hid hy
 have HX:=Lib.hid hx2
 clear hx2 hy
 go_wp2_with (go_at_call 146;((with_reducible refine (isOfTwo_any _ _).mono ?_);rintro e w2 ⟨rfl,rfl⟩))
 all_goals exact bodyPost_ret (out_nod (HY.out.put14 Nd.zero (.slice none 0 0)) _ _ _ 2 3 res_fields rfl rfl) rfl ⟨rfl,below_set14 HB.out (by have:=HB.out.size;omega) _ _ _ _ _ _ _ _ _ _ _ _ _ _⟩
set_option maxRecDepth 100000 in
set_option maxHeartbeats 4000000 in
theorem fields_0b (w:World) (n:Nd) (h1:¬ n.kind=1) (h2:¬ n.kind=2) (h3:¬ n.kind=3) (h5:¬ n.kind=5) (h6:¬ n.kind=6) (h7:¬ n.kind=7) (h4:n.kind=8) (A:Option Addr) (m c:Nat):Calls Tryz.prog 114 #[.agg #[.int .i64 n.kind,.int .i64 n.num,.string n.text,.string n.ref.sh,.int .i64 n.ref.c,.int .i64 n.ref.r,.bool n.ref.ac,.bool n.ref.ar,.string n.to.sh,.int .i64 n.to.c,.int .i64 n.to.r,.bool n.to.ac,.bool n.to.ar,.slice A m c]] w fun e w'=>e = .returned (.tuple #[.agg (nodA Nd.zero (.slice none 0 0)),.bool true])∧Below w.heap.size w w':=by
 obtain ⟨w1,hw1,hx2,hy,hb,hb2⟩:=nod2 w n A m c
 have HB:=Lib.hid hb
 obtain ⟨x0,x1,x2,x3,x4,x5,x6,x7,x8,x9,x10,x11,x12,x13⟩:=hx2.cells
 have e1:(n.kind == 1)=false:=beq_eq_false_iff_ne.2 h1
 have e2:(n.kind == 2)=false:=beq_eq_false_iff_ne.2 h2
 have e3:(n.kind == 3)=false:=beq_eq_false_iff_ne.2 h3
 have e5:(n.kind == 5)=false:=beq_eq_false_iff_ne.2 h5
 have e6:(n.kind == 6)=false:=beq_eq_false_iff_ne.2 h6
 have e7:(n.kind == 7)=false:=beq_eq_false_iff_ne.2 h7
 clear h1 h2 h3 h5 h6 h7
 have e4:(n.kind == 4)=false:=by rw [h4];rfl
 have e8:(n.kind == 8)=true:=beq_iff_eq.2 h4
 clear h4
 go_enter Tryz.func114,Tryz.ntmps114
 go_upto_region 14 with (fail)
 clear hw1 hb
 obtain ⟨y0,y1,y2,y3,y4,y5,y6,y7,y8,y9,y10,y11,y12,y13⟩:=hy.cells
 obtain ⟨f0,f1,f2,f3,f4,f5,f6,f7,f8,f9,f10,f11,f12,f13⟩:=hy.melts
 have HY:=Lib.hid hy
 have HX:=Lib.hid hx2
 clear hx2 hy
 go_wp2_with (go_at_call 146;((with_reducible refine (isOfTwo_any _ _).mono ?_);rintro e w2 ⟨rfl,rfl⟩))
 all_goals exact bodyPost_ret (out_nod (HY.out.put14 Nd.zero (.slice none 0 0)) _ _ _ 2 3 res_fields rfl rfl) rfl ⟨rfl,below_set14 HB.out (by have:=HB.out.size;omega) _ _ _ _ _ _ _ _ _ _ _ _ _ _⟩
set_option maxRecDepth 100000 in
set_option maxHeartbeats 4000000 in
theorem fields_0c (w:World) (n:Nd) (h1:¬ n.kind=1) (h2:¬ n.kind=2) (h3:¬ n.kind=3) (h5:¬ n.kind=5) (h6:¬ n.kind=6) (h7:¬ n.kind=7) (h4:¬ n.kind=4) (h8:¬ n.kind=8) (A:Option Addr) (m c:Nat):Calls Tryz.prog 114 #[.agg #[.int .i64 n.kind,.int .i64 n.num,.string n.text,.string n.ref.sh,.int .i64 n.ref.c,.int .i64 n.ref.r,.bool n.ref.ac,.bool n.ref.ar,.string n.to.sh,.int .i64 n.to.c,.int .i64 n.to.r,.bool n.to.ac,.bool n.to.ar,.slice A m c]] w fun e w'=>e = .returned (.tuple #[.agg (nodA Nd.zero (.slice none 0 0)),.bool (twoB n.kind)])∧Below w.heap.size w w':=by
 obtain ⟨w1,hw1,hx2,hy,hb,hb2⟩:=nod2 w n A m c
 have HB:=Lib.hid hb
 obtain ⟨x0,x1,x2,x3,x4,x5,x6,x7,x8,x9,x10,x11,x12,x13⟩:=hx2.cells
 have e1:(n.kind == 1)=false:=beq_eq_false_iff_ne.2 h1
 have e2:(n.kind == 2)=false:=beq_eq_false_iff_ne.2 h2
 have e3:(n.kind == 3)=false:=beq_eq_false_iff_ne.2 h3
 have e5:(n.kind == 5)=false:=beq_eq_false_iff_ne.2 h5
 have e6:(n.kind == 6)=false:=beq_eq_false_iff_ne.2 h6
 have e7:(n.kind == 7)=false:=beq_eq_false_iff_ne.2 h7
 clear h1 h2 h3 h5 h6 h7
 have e4:(n.kind == 4)=false:=beq_eq_false_iff_ne.2 h4
 have e8:(n.kind == 8)=false:=beq_eq_false_iff_ne.2 h8
 clear h4 h8
 go_enter Tryz.func114,Tryz.ntmps114
 go_upto_region 14 with (fail)
 clear hw1 hb
 obtain ⟨y0,y1,y2,y3,y4,y5,y6,y7,y8,y9,y10,y11,y12,y13⟩:=hy.cells
 obtain ⟨f0,f1,f2,f3,f4,f5,f6,f7,f8,f9,f10,f11,f12,f13⟩:=hy.melts
 have HY:=Lib.hid hy
 have HX:=Lib.hid hx2
 clear hx2 hy
 go_wp2_with (go_at_call 146;((with_reducible refine (isOfTwo_any _ _).mono ?_);rintro e w2 ⟨rfl,rfl⟩))
 all_goals exact bodyPost_ret (out_nod (HY.out.put14 Nd.zero (.slice none 0 0)) _ _ _ 2 3 res_fields rfl rfl) rfl ⟨rfl,below_set14 HB.out (by have:=HB.out.size;omega) _ _ _ _ _ _ _ _ _ _ _ _ _ _⟩
def eqR (a b:Rf):Bool:=decide (a.sh=b.sh)&&(decide (a.c=b.c)&&(decide (a.r=b.r)&&((a.ac == b.ac)&&(a.ar == b.ar))))
theorem eqR_iff (a b:Rf):eqR a b=true↔a=b:=by
 unfold eqR
 simp only [Bool.and_eq_true,decide_eq_true_iff,beq_iff_eq]
 cases a;cases b
 simp
def isNd (n:Nd) (m:Nat):Bool:=okF n&&(hkB n.kind m&&(decide (n.num=(namedN n).num)&&(decide (n.text=(namedN n).text)&&(eqR n.ref (namedN n).ref&&eqR n.to (namedN n).to))))
theorem eqR_self (a:Rf):eqR a a=true:=(eqR_iff a a).2 rfl
theorem noRf_eq (r:Rf):noRf r=eqR r Rf.zero:=by
 obtain ⟨sh,c,r,ac,ar⟩:=r
 unfold noRf eqR Rf.zero
 simp only
 rw [Bool.eq_iff_iff]
 simp only [Bool.and_eq_true,decide_eq_true_iff,beq_iff_eq,Bool.not_eq_true']
 constructor
 · rintro ⟨⟨h1,h2,h3⟩,h4,h5⟩;exact ⟨h1,h2,h3,h4,h5⟩
 · rintro ⟨h1,h2,h3,h4,h5⟩;exact ⟨⟨h1,h2,h3⟩,h4,h5⟩
def ok2 (n:Nd):Bool :=
 if n.kind=1 then decide (0≤n.num) else if n.kind=2 then printB (sb n.text) else if n.kind=3 then decide (n.num=0∨n.num=1)
 else if n.kind=5 then mayRf n.ref else if n.kind=6 then mayRf n.ref&&(mayRf n.to&&spanB n.ref n.to) else if n.kind=7 then callB n.text else true
def cNum (n:Nd):Bool:=decide (n.kind=1∨n.kind=3∨n.num=0)
def cText (n:Nd):Bool:=decide (n.kind=2∨n.kind=7∨n.text=⟨#[]⟩)
def cRef (n:Nd):Bool:=decide (n.kind=5∨n.kind=6)||eqR n.ref Rf.zero
def cTo (n:Nd):Bool:=decide (n.kind=6)||eqR n.to Rf.zero
theorem named_cases (n:Nd):(n.kind=1∧namedN n={ Nd.zero with num:=n.num })∨(n.kind=2∧namedN n={ Nd.zero with text:=n.text })∨(n.kind=3∧namedN n={ Nd.zero with num:=n.num })∨(n.kind=5∧namedN n={ Nd.zero with ref:=n.ref })∨(n.kind=6∧namedN n=⟨0,0,⟨#[]⟩,n.ref,n.to,[]⟩)∨(n.kind=7∧namedN n={ Nd.zero with text:=n.text })∨(¬ n.kind=1∧¬ n.kind=2∧¬ n.kind=3∧¬ n.kind=5∧¬ n.kind=6∧¬ n.kind=7∧namedN n=Nd.zero):=by
 unfold namedN
 by_cases h1:n.kind=1
 · exact Or.inl ⟨h1,by rw [if_pos h1]⟩
 by_cases h2:n.kind=2
 · exact Or.inr <| Or.inl ⟨h2,by rw [if_neg h1,if_pos h2]⟩
 by_cases h3:n.kind=3
 · exact Or.inr <| Or.inr <| Or.inl ⟨h3,by rw [if_neg h1,if_neg h2,if_pos h3]⟩
 by_cases h5:n.kind=5
 · exact Or.inr <| Or.inr <| Or.inr <| Or.inl ⟨h5,by rw [if_neg h1,if_neg h2,if_neg h3,if_pos h5]⟩
 by_cases h6:n.kind=6
 · exact Or.inr <| Or.inr <| Or.inr <| Or.inr <| Or.inl ⟨h6,by rw [if_neg h1,if_neg h2,if_neg h3,if_neg h5,if_pos h6]⟩
 by_cases h7:n.kind=7
 · exact Or.inr <| Or.inr <| Or.inr <| Or.inr <| Or.inr <| Or.inl ⟨h7,by rw [if_neg h1,if_neg h2,if_neg h3,if_neg h5,if_neg h6,if_pos h7]⟩
 exact Or.inr <| Or.inr <| Or.inr <| Or.inr <| Or.inr <| Or.inr <| ⟨h1,h2,h3,h5,h6,h7,by rw [if_neg h1,if_neg h2,if_neg h3,if_neg h5,if_neg h6,if_neg h7]⟩
theorem named_num (n:Nd):decide (n.num=(namedN n).num)=cNum n:=by
 rcases named_cases n with ⟨h,e⟩ | ⟨h,e⟩ | ⟨h,e⟩ | ⟨h,e⟩ | ⟨h,e⟩ | ⟨h,e⟩ | ⟨h1,h2,h3,h5,h6,h7,e⟩
 · rw [e];unfold cNum;rw [show decide (n.num=n.num)=true from decide_eq_true rfl];symm;rw [decide_eq_true_iff];first | exact .inl h | exact .inr (.inl h)
 · rw [e];unfold cNum;show decide (n.num=0)=_;rw [decide_eq_decide];constructor
   · intro g;exact .inr (.inr g)
   · rintro (g | g | g)
     · omega
     · omega
     · exact g
 · rw [e];unfold cNum;rw [show decide (n.num=n.num)=true from decide_eq_true rfl];symm;rw [decide_eq_true_iff];first | exact .inl h | exact .inr (.inl h)
 · rw [e];unfold cNum;show decide (n.num=0)=_;rw [decide_eq_decide];constructor
   · intro g;exact .inr (.inr g)
   · rintro (g | g | g)
     · omega
     · omega
     · exact g
 · rw [e];unfold cNum;show decide (n.num=0)=_;rw [decide_eq_decide];constructor
   · intro g;exact .inr (.inr g)
   · rintro (g | g | g)
     · omega
     · omega
     · exact g
 · rw [e];unfold cNum;show decide (n.num=0)=_;rw [decide_eq_decide];constructor
   · intro g;exact .inr (.inr g)
   · rintro (g | g | g)
     · omega
     · omega
     · exact g
 · rw [e];unfold cNum;show decide (n.num=0)=_;rw [decide_eq_decide];constructor
   · intro g;exact .inr (.inr g)
   · rintro (g | g | g)
     · omega
     · omega
     · exact g
theorem named_text (n:Nd):decide (n.text=(namedN n).text)=cText n:=by
 rcases named_cases n with ⟨h,e⟩ | ⟨h,e⟩ | ⟨h,e⟩ | ⟨h,e⟩ | ⟨h,e⟩ | ⟨h,e⟩ | ⟨h1,h2,h3,h5,h6,h7,e⟩
 · rw [e];unfold cText;show decide (n.text=⟨#[]⟩)=_;rw [decide_eq_decide];constructor
   · intro g;exact .inr (.inr g)
   · rintro (g | g | g)
     · omega
     · omega
     · exact g
 · rw [e];unfold cText;rw [show decide (n.text=n.text)=true from decide_eq_true rfl];symm;rw [decide_eq_true_iff];first | exact .inl h | exact .inr (.inl h)
 · rw [e];unfold cText;show decide (n.text=⟨#[]⟩)=_;rw [decide_eq_decide];constructor
   · intro g;exact .inr (.inr g)
   · rintro (g | g | g)
     · omega
     · omega
     · exact g
 · rw [e];unfold cText;show decide (n.text=⟨#[]⟩)=_;rw [decide_eq_decide];constructor
   · intro g;exact .inr (.inr g)
   · rintro (g | g | g)
     · omega
     · omega
     · exact g
 · rw [e];unfold cText;show decide (n.text=⟨#[]⟩)=_;rw [decide_eq_decide];constructor
   · intro g;exact .inr (.inr g)
   · rintro (g | g | g)
     · omega
     · omega
     · exact g
 · rw [e];unfold cText;rw [show decide (n.text=n.text)=true from decide_eq_true rfl];symm;rw [decide_eq_true_iff];first | exact .inl h | exact .inr (.inl h)
 · rw [e];unfold cText;show decide (n.text=⟨#[]⟩)=_;rw [decide_eq_decide];constructor
   · intro g;exact .inr (.inr g)
   · rintro (g | g | g)
     · omega
     · omega
     · exact g
theorem named_ref (n:Nd):eqR n.ref (namedN n).ref=cRef n:=by
 rcases named_cases n with ⟨h,e⟩ | ⟨h,e⟩ | ⟨h,e⟩ | ⟨h,e⟩ | ⟨h,e⟩ | ⟨h,e⟩ | ⟨h1,h2,h3,h5,h6,h7,e⟩
 · rw [e];unfold cRef;show eqR n.ref Rf.zero=_;rw [decide_eq_false (by omega)];rfl
 · rw [e];unfold cRef;show eqR n.ref Rf.zero=_;rw [decide_eq_false (by omega)];rfl
 · rw [e];unfold cRef;show eqR n.ref Rf.zero=_;rw [decide_eq_false (by omega)];rfl
 · rw [e];unfold cRef;rw [show eqR n.ref n.ref=true from eqR_self _,decide_eq_true (by omega)];rfl
 · rw [e];unfold cRef;rw [show eqR n.ref n.ref=true from eqR_self _,decide_eq_true (by omega)];rfl
 · rw [e];unfold cRef;show eqR n.ref Rf.zero=_;rw [decide_eq_false (by omega)];rfl
 · rw [e];unfold cRef;show eqR n.ref Rf.zero=_;rw [decide_eq_false (by omega)];rfl
theorem named_to (n:Nd):eqR n.to (namedN n).to=cTo n:=by
 rcases named_cases n with ⟨h,e⟩ | ⟨h,e⟩ | ⟨h,e⟩ | ⟨h,e⟩ | ⟨h,e⟩ | ⟨h,e⟩ | ⟨h1,h2,h3,h5,h6,h7,e⟩
 · rw [e];unfold cTo;show eqR n.to Rf.zero=_;rw [decide_eq_false (by omega)];rfl
 · rw [e];unfold cTo;show eqR n.to Rf.zero=_;rw [decide_eq_false (by omega)];rfl
 · rw [e];unfold cTo;show eqR n.to Rf.zero=_;rw [decide_eq_false (by omega)];rfl
 · rw [e];unfold cTo;show eqR n.to Rf.zero=_;rw [decide_eq_false (by omega)];rfl
 · rw [e];unfold cTo;rw [show eqR n.to n.to=true from eqR_self _,decide_eq_true (by omega)];rfl
 · rw [e];unfold cTo;show eqR n.to Rf.zero=_;rw [decide_eq_false (by omega)];rfl
 · rw [e];unfold cTo;show eqR n.to Rf.zero=_;rw [decide_eq_false (by omega)];rfl
theorem leaf_eq (n:Nd):leafB n=((cNum n&&(cText n&&(cRef n&&cTo n)))&&ok2 n):=by
 unfold leafB cNum cText cRef cTo
 rw [noRf_eq,noRf_eq]
 have hk:(if n.kind=1 then decide (0≤n.num) else if n.kind=3 then decide (n.num=0∨n.num=1) else if n.kind=2 then printB (sb n.text) else if n.kind=7 then callB n.text else if n.kind=5 then mayRf n.ref else if n.kind=6 then mayRf n.ref&&(mayRf n.to&&spanB n.ref n.to) else true)=ok2 n:=by
  unfold ok2
  by_cases h1:n.kind=1
  · rw [if_pos h1,if_pos h1]
  by_cases h2:n.kind=2
  · rw [if_neg h1,if_neg (by omega),if_pos h2,if_neg h1,if_pos h2]
  by_cases h3:n.kind=3
  · rw [if_neg h1,if_pos h3,if_neg h1,if_neg h2,if_pos h3]
  by_cases h5:n.kind=5
  · rw [if_neg h1,if_neg h3,if_neg h2,if_neg (by omega),if_pos h5,if_neg h1,if_neg h2,if_neg h3,if_pos h5]
  by_cases h6:n.kind=6
  · rw [if_neg h1,if_neg h3,if_neg h2,if_neg (by omega),if_neg h5,if_pos h6,if_neg h1,if_neg h2,if_neg h3,if_neg h5,if_pos h6]
  by_cases h7:n.kind=7
  · rw [if_neg h1,if_neg h3,if_neg h2,if_pos h7,if_neg h1,if_neg h2,if_neg h3,if_neg h5,if_neg h6,if_pos h7]
  rw [if_neg h1,if_neg h3,if_neg h2,if_neg h7,if_neg h5,if_neg h6,if_neg h1,if_neg h2,if_neg h3,if_neg h5,if_neg h6,if_neg h7]
 rw [hk]
 by_cases q1:n.kind=1∨n.kind=3∨n.num=0
 · by_cases q2 : n.kind=2∨n.kind=7∨n.text=⟨#[]⟩
   · by_cases q3:n.kind=5∨n.kind=6
     · by_cases q4:n.kind=6
       · rw [decide_eq_true q1,decide_eq_true q2,decide_eq_true q3,decide_eq_true q4,if_neg]
         · rfl
         · rintro (g | g | g | g)
           · omega
           · rcases q2 with q | q | q
             · exact g.1 q
             · exact g.2.1 q
             · exact g.2.2 q
           · omega
           · omega
       · cases q5:eqR n.to Rf.zero
         · rw [if_pos (.inr (.inr (.inr ⟨q4,rfl⟩))),decide_eq_false q4,Bool.or_false,Bool.and_false,Bool.and_false,Bool.and_false];rfl
         · rw [decide_eq_true q1,decide_eq_true q2,decide_eq_true q3,decide_eq_false q4,if_neg]
           · rfl
           · rintro (g | g | g | g)
             · omega
             · rcases q2 with q | q | q
               · exact g.1 q
               · exact g.2.1 q
               · exact g.2.2 q
             · omega
             · cases g.2
     · cases q5 : eqR n.ref Rf.zero
       · rw [if_pos (.inr (.inr (.inl ⟨by omega,by omega,rfl⟩))),decide_eq_false q3,Bool.or_false,Bool.false_and,Bool.and_false,Bool.and_false];rfl
       · cases q6:eqR n.to Rf.zero
         · rw [if_pos (.inr (.inr (.inr ⟨by omega,rfl⟩))),decide_eq_false (show ¬ n.kind=6 by omega),Bool.or_false,Bool.and_false,Bool.and_false,Bool.and_false];rfl
         · rw [decide_eq_true q1,decide_eq_true q2,decide_eq_false q3,if_neg]
           · cases decide (n.kind=6) <;> rfl
           · rintro (g | g | g | g)
             · omega
             · rcases q2 with q | q | q
               · exact g.1 q
               · exact g.2.1 q
               · exact g.2.2 q
             · cases g.2.2
             · cases g.2
   · rw [if_pos (.inr (.inl ⟨fun h=>q2 (.inl h),fun h=>q2 (.inr (.inl h)),fun h=>q2 (.inr (.inr h))⟩)),decide_eq_false q2,Bool.false_and,Bool.and_false];rfl
 · rw [if_pos (.inl ⟨fun h=>q1 (.inl h),fun h=>q1 (.inr (.inl h)),fun h=>q1 (.inr (.inr h))⟩),decide_eq_false q1];rfl
theorem kids_eq (n:Nd) (m:Nat):(okF n&&hkB n.kind m)=(ok2 n&&(decide (armsN n.kind = -1)||decide (armsN n.kind=m))):=by
 have c0:decide ((0:Int)=(m:Int))=decide (m=0):=by rw [decide_eq_decide];omega
 have c1:decide ((1:Int)=(m:Int))=decide (m=1):=by rw [decide_eq_decide];omega
 have c2:decide ((2:Int)=(m:Int))=decide (m=2):=by rw [decide_eq_decide];omega
 have c3:decide ((-2:Int)=(m:Int))=false:=by rw [decide_eq_false_iff_not];omega
 unfold okF ok2 hkB armsN twoB
 by_cases h1:n.kind=1
 · rw [if_pos h1,if_pos h1,if_neg (show ¬ n.kind=7 by omega),if_neg (show ¬ n.kind=8 by omega),decide_eq_false (show ¬ (9≤n.kind∧n.kind≤19) by omega),if_pos (show 1≤n.kind∧n.kind≤6 by omega),c0];rfl
 by_cases h2:n.kind=2
 · rw [if_neg h1,if_pos h2,if_neg h1,if_pos h2,if_neg (show ¬ n.kind=7 by omega),if_neg (show ¬ n.kind=8 by omega),decide_eq_false (show ¬ (9≤n.kind∧n.kind≤19) by omega),if_pos (show 1≤n.kind∧n.kind≤6 by omega),c0];rfl
 by_cases h3:n.kind=3
 · rw [if_neg h1,if_neg h2,if_pos h3,if_neg h1,if_neg h2,if_pos h3,if_neg (show ¬ n.kind=7 by omega),if_neg (show ¬ n.kind=8 by omega),decide_eq_false (show ¬ (9≤n.kind∧n.kind≤19) by omega),if_pos (show 1≤n.kind∧n.kind≤6 by omega),c0];rfl
 by_cases h5:n.kind=5
 · rw [if_neg h1,if_neg h2,if_neg h3,if_pos h5,if_neg h1,if_neg h2,if_neg h3,if_pos h5,if_neg (show ¬ n.kind=7 by omega),if_neg (show ¬ n.kind=8 by omega),decide_eq_false (show ¬ (9≤n.kind∧n.kind≤19) by omega),if_pos (show 1≤n.kind∧n.kind≤6 by omega),c0];rfl
 by_cases h6:n.kind=6
 · rw [if_neg h1,if_neg h2,if_neg h3,if_neg h5,if_pos h6,if_neg h1,if_neg h2,if_neg h3,if_neg h5,if_pos h6,if_neg (show ¬ n.kind=7 by omega),if_neg (show ¬ n.kind=8 by omega),decide_eq_false (show ¬ (9≤n.kind∧n.kind≤19) by omega),if_pos (show 1≤n.kind∧n.kind≤6 by omega),c0];rfl
 by_cases h7:n.kind=7
 · rw [if_neg h1,if_neg h2,if_neg h3,if_neg h5,if_neg h6,if_pos h7,if_neg h1,if_neg h2,if_neg h3,if_neg h5,if_neg h6,if_pos h7,if_pos h7,if_neg (show ¬ (1≤n.kind∧n.kind≤6) by omega),if_pos h7];rfl
 rw [if_neg h1,if_neg h2,if_neg h3,if_neg h5,if_neg h6,if_neg h7,if_neg h1,if_neg h2,if_neg h3,if_neg h5,if_neg h6,if_neg h7,if_neg h7,Bool.true_and]
 by_cases h8:n.kind=8
 · rw [if_pos h8,if_neg (show ¬ (1≤n.kind∧n.kind≤6) by omega),if_neg h7,if_pos h8,c1,decide_eq_true (show n.kind=4∨n.kind=8 by omega)];rfl
 by_cases h9:9≤n.kind∧n.kind≤19
 · rw [if_neg h8,if_neg (show ¬ (1≤n.kind∧n.kind≤6) by omega),if_neg h7,if_neg h8,if_pos h9,c2,decide_eq_true h9,if_pos rfl,Bool.or_true];rfl
 by_cases h4:n.kind=4
 · rw [if_neg h8,if_pos (show 1≤n.kind∧n.kind≤6 by omega),c0,decide_eq_true (show n.kind=4∨n.kind=8 by omega),decide_eq_false h9];rfl
 rw [if_neg h8,if_neg (show ¬ (1≤n.kind∧n.kind≤6) by omega),if_neg h7,if_neg h8,if_neg h9,c3,decide_eq_false (show ¬ (n.kind=4∨n.kind=8) by omega),decide_eq_false h9];rfl
theorem isNd_eq (n:Nd):isNd n n.kids.length=nodeB n:=by
 unfold isNd nodeB
 rw [named_num,named_text,named_ref,named_to,leaf_eq]
 have h:=kids_eq n n.kids.length
 revert h
 generalize (decide (armsN n.kind = -1)||decide (armsN n.kind=n.kids.length))=d
 generalize hkB n.kind n.kids.length=c
 cases okF n <;> cases ok2 n <;> cases c <;> cases d <;> cases cNum n <;> cases cText n <;> cases cRef n <;> cases cTo n <;> simp
def SI (w:World) (B:Nat) (v:Value) (xs:List Int):Prop :=
 ∃ A cap,v = .slice A xs.length cap∧xs.length≤cap∧cap≤maxLen∧(xs=[]∨∃ pb po,A=some ⟨pb,po,none⟩∧pb<B∧∀ (j:Nat) (x:Int),xs[j]? = some x→w.cell? ⟨pb,po+j,none⟩=some (.int .i64 x))
theorem SI.below {w w':World} {B C:Nat} {v:Value} {xs:List Int} (h:SI w B v xs) (hb:Below C w w') (hC:B≤C):SI w' B v xs:=by
 obtain ⟨A,cap,h1,h2,h3,h4⟩:=h
 refine ⟨A,cap,h1,h2,h3,h4.imp id ?_⟩
 rintro ⟨pb,po,e1,e2,e3⟩
 exact ⟨pb,po,e1,e2,fun j x hj=>(hb.cell (p:=⟨pb,po+j,none⟩) (by show pb<C;omega)).trans (e3 j x hj)⟩
theorem SI.mono {w:World} {B C:Nat} {v:Value} {xs:List Int} (h:SI w B v xs) (hC:B≤C):SI w C v xs:=by
 obtain ⟨A,cap,h1,h2,h3,h4⟩:=h
 refine ⟨A,cap,h1,h2,h3,h4.imp id ?_⟩
 rintro ⟨pb,po,e1,e2,e3⟩
 exact ⟨pb,po,e1,by omega,e3⟩
theorem own_at {w:World} {base g n cap:Nat} {st:List Int} (h:Own (encInt .i64) 3 w base (.slice (some ⟨g,0,none⟩) n cap) st) (j:Nat) (x:Int) (hj:st[j]? = some x):w.cell? ⟨g,j,none⟩=some (.int .i64 x):=by
 have hl:=(List.getElem?_eq_some_iff.1 hj).1
 have h1:=Own.intCell h j hl
 rw [List.getD_eq_getElem?_getD,hj] at h1;exact h1
theorem SI.tail {w:World} {base g cap:Nat} {st:List Int} (h:Own (encInt .i64) 3 w base (.slice (some ⟨g,0,none⟩) st.length cap) st) (f:Nat) (hf:f≤st.length) (hc:st.length≤cap) (hm:cap≤maxLen) (hg:g<w.heap.size):SI w w.heap.size (.slice (if cap=f then some ⟨g,0,none⟩ else some ⟨g,f,none⟩) (st.length - f) (cap - f)) (st.drop f):=by
 refine ⟨_,_,by rw [List.length_drop],by rw [List.length_drop];omega,by omega, ?_⟩
 by_cases h0:st.drop f=[]
 · exact .inl h0
 · have hne:¬ cap=f:=fun e=>h0 (List.drop_of_length_le (by omega))
   refine .inr ⟨g,f,by rw [if_neg hne],hg,fun j x hj => ?_⟩
   rw [List.getElem?_drop] at hj
   exact own_at h (f+j) x hj
theorem own_take {w:World} {base g cap:Nat} {st:List Int} (h:Own (encInt .i64) 3 w base (.slice (some ⟨g,0,none⟩) st.length cap) st) (k:Nat) (hk:k≤st.length):Own (encInt .i64) 3 w base (.slice (some ⟨g,0,none⟩) k cap) (st.take k):=by
 have hl:(st.take k).length=k:=by rw [List.length_take];omega
 rcases h.2 with ⟨h1,_⟩ | ⟨g',cap',cur,h1,h2,h3,h4,h5,h6,h7⟩
 · cases h1
 · injection h1 with e1 e2 e3
   injection e1 with e1;injection e1 with e1
   subst e1;subst e3
   refine ⟨by rw [Enc.length_all],.inr ⟨g,cap,cur,by rw [hl],h2,h3,by omega,h5,h6, ?_⟩⟩
   rw [hl,all_encInt,List.map_take, ← all_encInt, ← h7,List.take_take,Nat.mul_one,Nat.mul_one]
   congr 1;omega
theorem take_snoc {xs ys:List Int} {k:Nat} {x:Int} (h:xs.take k=ys.take k) (hx:xs[k]? = some x) (hy:ys[k]? = some x):xs.take (k+1)=ys.take (k+1):=by
 rw [List.take_add_one,List.take_add_one,h,hx,hy]
set_option maxRecDepth 100000 in
set_option maxHeartbeats 1600000 in
theorem equal_any (w:World) (B:Nat) (v1 v2:Value) (xs ys:List Int) (h1:SI w B v1 xs) (h2:SI w B v2 ys):Calls Tryz.prog 77 #[v1,v2] w fun e w'=>e = .returned (.bool (decide (xs=ys)))∧Below w.heap.size w w':=by
 obtain ⟨A1,cap1,rfl,hc1,hm1,a1⟩:=h1
 obtain ⟨A2,cap2,rfl,hc2,hm2,a2⟩:=h2
 unfold maxLen at hm1 hm2
 obtain ⟨n1,hn1⟩:∃ n1,xs.length=n1:=⟨_,rfl⟩
 obtain ⟨n2,hn2⟩:∃ n2,ys.length=n2:=⟨_,rfl⟩
 rw [hn1] at hc1 ⊢
 rw [hn2] at hc2 ⊢
 by_cases hl:n1=n2
 · subst hl
   have HA1:=Lib.hid a1;have HA2:=Lib.hid a2;have HN1:=Lib.hid hn1;have HN2:=Lib.hid hn2
   clear a1 a2 hn1 hn2
   go_enter Tryz.func77,Tryz.ntmps77
   go_upto_region 4 with (fail)
   go_loopw [13] (fun i wr=>∃ (k m:Nat),k≤n1∧i = .int .i64 (k:Int)∧Hid (xs.take k=ys.take k)∧w.drewN m=wr)
    (fun i _=>n1 - (intOf i).toNat)
   case atStart=>exact ⟨0,0,Nat.zero_le _,rfl,Lib.hid rfl,rfl⟩
   case round =>
    obtain ⟨k,m,hk,rfl,HT,rfl⟩:=hrel
    by_cases hlt:k<n1
    · have hki:(k:Int)<(n1:Int):=by omega
      obtain ⟨x,hx⟩:∃ x,xs[k]? = some x:=⟨_,List.getElem?_eq_getElem (by rw [HN1.out];exact hlt)⟩
      obtain ⟨y,hy⟩:∃ y,ys[k]? = some y:=⟨_,List.getElem?_eq_getElem (by rw [HN2.out];exact hlt)⟩
      rcases HA1.out with e | ⟨p1,o1,rfl, -,c1⟩
      · exfalso;rw [e] at hx;simp at hx
      rcases HA2.out with e | ⟨p2,o2,rfl, -,c2⟩
      · exfalso;rw [e] at hy;simp at hy
      have k1:=c1 k x hx
      have k2:=c2 k y hy
      have HX:=Lib.hid hx;have HY:=Lib.hid hy
      clear c1 c2 hx hy
      by_cases hxy:x=y
      · have ex:(x != y)=false:=by rw [hxy];simp
        have HT2:=Lib.hid (take_snoc HT.out HX.out (by rw [hxy];exact HY.out))
        clear hxy
        go_wp2_with fail
        go_quiet (fail)
        go_wp2_with fail
        go_roundw
        case rel=>exact ⟨k+1,_,by omega,by go_num,HT2,by first | rfl | trivial⟩
        case measure=>simp [intOf];omega
      · have ex:(x != y)=true:=by rw [bne_iff_ne];exact hxy
        have HR:=Lib.hid (show ¬ xs=ys from fun e=>hxy (by have h1:=HX.out;rw [e,HY.out] at h1;exact (Option.some.inj h1).symm))
        clear hxy
        go_wp2_with fail
        go_quiet (fail)
        go_wp2_with fail
        go_ret
        exact ⟨by rw [decide_eq_false HR.out] <;> rfl,drew_below (drew_below (Below.refl _ _) m) nq⟩
    · have hki:¬ (k:Int)<(n1:Int):=by omega
      have HR:=Lib.hid (show xs=ys by
       have h1:=HT.out
       rw [List.take_of_length_le (by rw [HN1.out];omega),List.take_of_length_le (by rw [HN2.out];omega)] at h1
       exact h1)
      go_wp2_with fail
      go_ret
      exact ⟨by rw [decide_eq_true HR.out] <;> rfl,drew_below (Below.refl _ _) m⟩
 · have hne:((n1:Int) != (n2:Int))=true:=by rw [bne_iff_ne];omega
   have HR:=Lib.hid (show ¬ xs=ys from fun e=>hl (by rw [← hn1, ← hn2,e]))
   clear a1 a2 hn1 hn2
   go_enter Tryz.func77,Tryz.ntmps77
   go_wp2_with fail
   go_ret
   exact ⟨by rw [decide_eq_false HR.out] <;> rfl,Below.refl _ _⟩
def SN (w:World) (B:Nat) (v:Value) (vs:List (Nd × Value)):Prop :=
 (∃ A cap,v = .slice A vs.length cap∧(vs=[]∨∃ pb po,A=some ⟨pb,po,none⟩∧pb<B∧∀ (i:Nat) (n:Nd) (k:Value),vs[i]? = some (n,k)→∀ j,j<14→w.cell? ⟨pb,po+i*14+j,none⟩=(nodA n k).toList[j]?))∧∀ p∈vs,SI w B p.2 p.1.kids
def SZ (vs:List (Nd × Value)):Prop:=vs.length≤1000∧∀ p∈vs,p.1.text.size≤1000000∧p.1.ref.sh.size≤1000000∧p.1.to.sh.size≤1000000
theorem SI.se {w:World} {B:Nat} {v:Value} {xs:List Int} (h:SI w B v xs):SE (encInt .i64) w B v xs:=by
 obtain ⟨A,cap,h1,h2,h3,h4⟩:=h
 refine ⟨A,cap,h1,h2,h3,h4.imp id ?_⟩
 rintro ⟨pb,po,e1,e2,e3⟩
 refine ⟨pb,po,e1,e2,fun j u hu => ?_⟩
 rw [all_encInt,List.getElem?_map] at hu
 cases hx:xs[j]? with
 | none=>rw [hx] at hu;cases hu
 | some x=>rw [hx] at hu;rw [← Option.some.inj hu];exact e3 j x hx
theorem SE.si {w:World} {B:Nat} {v:Value} {xs:List Int} (h:SE (encInt .i64) w B v xs):SI w B v xs:=by
 obtain ⟨A,cap,h1,h2,h3,h4⟩:=h
 refine ⟨A,cap,h1,h2,h3,h4.imp id ?_⟩
 rintro ⟨pb,po,e1,e2,e3⟩
 exact ⟨pb,po,e1,e2,fun j x hx=>e3 j _ (by rw [all_encInt,List.getElem?_map,hx];rfl)⟩
theorem Own.siI {w:World} {lo:Nat} {v:Value} {xs:List Int} (h:Own (encInt .i64) 3 w lo v xs):SI w w.heap.size v xs:=h.se.si
theorem own_emptyI (w:World):Own (encInt .i64) 3 (w.alloc (.cells #[] 3)) w.heap.size (.slice (some ⟨w.heap.size,0,none⟩) 0 0) ([]:List Int) :=
 Own.made (encInt .i64) 3 _ _ _ 0 #[] rfl (Nat.le_refl _) (by unfold maxLen;omega) rfl
theorem run_nilI (A:Option Addr) (n cap:Nat) (w:World):Sem.run Tryz.prog (binOp BinOp.eql 46 (.slice A n cap) (.slice none 0 0)) w = .ok (.bool A.isNone) w:=Lib.run_eql_slice_nil w 46 3 A n cap 0 0 Tryz.underlying46
theorem ba_nil {s:ByteArray} (h:s.size=0):s=⟨#[]⟩:=by
 obtain ⟨d⟩:=s
 rw [Array.eq_empty_of_size_eq_zero (xs:=d) h]
def Anew (w:World) (xs:List Int) (e:Ending) (w':World):Prop:=Below w.heap.size w w'∧∃ A' c',e = .returned (.slice A' xs.length c')∧Own (encInt .i64) 3 w' w.heap.size (.slice A' xs.length c') xs
set_option maxRecDepth 100000 in
set_option maxHeartbeats 1600000 in
theorem cloneI_any (w:World) (A:Option Addr) (n cap:Nat) (xs:List Int) (h:SI w w.heap.size (.slice A n cap) xs) (hn:n≤1000000) :
 Calls Tryz.prog 80 #[.slice A n cap] w (Anew w xs):=by
 have h:=h.se
 cases A with
 | none =>
   obtain rfl:xs=[]:=by
    cases xs with
    | nil=>rfl
    | cons x t=>obtain ⟨pb,po,h1,_⟩:=SE.at h (i:=0) rfl;cases h1
   obtain rfl:n=0:=h.len.1.symm
   clear h
   have hnil:=fun w=>run_nilI none 0 cap w
   go_enter Tryz.func80,Tryz.ntmps80
   go_wp2_with fail
   go_ret
   exact ⟨Below.refl _ _,none,0,rfl,Own.nil _ _ _ _⟩
 | some ad =>
   have HX:=Lib.hid h
   have HL:=Lib.hid h.len.1
   clear h
   have HO:=Lib.hid (own_emptyI w)
   have HBA:=Lib.hid ((Below.refl w.heap.size w).alloc (Nat.le_refl _) (.cells #[] 3))
   have HCE:=Lib.hid (fun (j:Nat) (u:Value) (hj:((encInt .i64).all xs)[j]? = some u)=>(show (w.alloc (.cells #[] 3)).cell? (ad.add j)=some u from by
    obtain ⟨A',cap',h1,_,_,h3⟩:=(HX.out.lift HBA.out)
    injection h1 with h1 _ _
    rcases h3 with rfl | ⟨pb,po,h4,_,h5⟩
    · simp [Enc.all] at hj
    · rw [h4] at h1
      injection h1 with h1
      subst h1
      rw [Addr.add_mid];exact h5 j u hj))
   have hnil:=fun w=>run_nilI (some ad) n cap w
   go_enter Tryz.func80,Tryz.ntmps80
   go_wp2_with (at_builtin;refine wpList_app Elem.pl (encInt .i64) rfl (.tmp 5) (.tmp 6) rfl w.heap.size _ [] rfl HO.out ad n cap xs rfl HL.out HCE.out ?_ ?_ ?_ ?_;(rw [List.length_nil];omega);(rw [List.length_nil];unfold maxLen;omega);exact HBA.out.size;intro v3 w3 h1 h2;have H3:=Lib.hid h1;clear h1;have H4:=Lib.hid h2;clear h2)
   go_ret
   have ho:Own (encInt .i64) 3 w3 w.heap.size v3 xs:=by have:=H3.out;rwa [List.nil_append] at this
   have hb:Below w.heap.size w w3:=HBA.out.trans H4.out
   refine ⟨hb, ?_⟩
   obtain ⟨A',c',rfl⟩:=own_sl ho
   exact ⟨A',c',rfl,ho⟩
set_option maxRecDepth 100000 in
set_option maxHeartbeats 1600000 in
theorem msheet_any (w:World) (own:ByteArray) (mb:Nat) (n:Nd) :
 Calls Tryz.prog 81 #[.agg #[.string own,.map (some mb)],.agg #[.string n.ref.sh,.int .i64 n.ref.c,.int .i64 n.ref.r,.bool n.ref.ac,.bool n.ref.ar]] w fun e w'=>e = .returned (.string (nameN own n))∧Below w.heap.size w w':=by
 by_cases c:n.ref.sh=⟨#[]⟩
 · have e1:nameN own n=own:=by unfold nameN;rw [if_pos c]
   rw [e1]
   have e2:n.ref.sh.toList=[]:=by rw [c,list_bytes]
   have e3:n.ref.sh.toList.isEmpty=true:=by rw [e2];rfl
   have HB:=Lib.hid (((Below.refl w.heap.size w).alloc (Nat.le_refl _) (.cells #[.string own,.map (some mb)] 92)).alloc (by simp) (.cells #[.string n.ref.sh,.int .i64 n.ref.c,.int .i64 n.ref.r,.bool n.ref.ac,.bool n.ref.ar] 45))
   clear e1 c
   go_enter Tryz.func81,Tryz.ntmps81
   go_wp2_with fail
   go_ret
   exact ⟨rfl,HB.out⟩
 · have e1:nameN own n=n.ref.sh:=by unfold nameN;rw [if_neg c]
   rw [e1]
   have e2:¬ n.ref.sh.toList=[]:=text_ne0 _ fun e=>c (ba_nil e)
   have e3:n.ref.sh.toList.isEmpty=false:=by cases h:n.ref.sh.toList with | nil=>exact absurd h e2 | cons a l=>rfl
   have HB:=Lib.hid (((Below.refl w.heap.size w).alloc (Nat.le_refl _) (.cells #[.string own,.map (some mb)] 92)).alloc (by simp) (.cells #[.string n.ref.sh,.int .i64 n.ref.c,.int .i64 n.ref.r,.bool n.ref.ac,.bool n.ref.ar] 45))
   clear e1 c
   go_enter Tryz.func81,Tryz.ntmps81
   go_wp2_with fail
   go_ret
   exact ⟨rfl,HB.out⟩
theorem wpList_store_nod {ops:Array Oper} {rest:List Oper} {op:Oper} {a:Act} {w:World} {Q:Exit→Act→World→Prop} (hgd:op.guard=none) (x y:Operand) (ho:op.op = .store 48 x y)
 (g:Nat) (n0 n:Nd) (k0 k:Value) (hx:a.eval x = .pointer (some ⟨g,0,none⟩)) (hy:a.eval y = .agg (nodA n k)) (hr:NdAt w g n0 k0) (hk:k.oneCell'=true)
 (h:∀ w',NdAt w' g n k→w.grownBy w' (some g)→wpList Tryz.prog ops Q rest (a.put op.dst undef) w'):wpList Tryz.prog ops Q (op :: rest) a w :=
 wpList_store_row hgd 48 x y ho g 48 _ _ hx hy hr rfl nod_size (nod_one n k hk) (h _ (setRow_heap w g _ _ _ _ hr) (grownBy.setRow' (grownBy.refl' w _) _))
theorem wp_store_nod {o:Oper} {a:Act} {w:World} {K:Act→World→Prop} {Q:Exit→Act→World→Prop} (x y:Operand) (ho:o.op = .store 48 x y)
 (g:Nat) (n0 n:Nd) (k0 k:Value) (hx:a.eval x = .pointer (some ⟨g,0,none⟩)) (hy:a.eval y = .agg (nodA n k)) (hr:NdAt w g n0 k0) (hk:k.oneCell'=true)
 (h:∀ w',NdAt w' g n k→w.grownBy w' (some g)→K (a.put o.dst undef) w'):Oper.wp Tryz.prog o a w K Q :=
 wp_store_row 48 x y ho g 48 _ _ hx hy hr rfl nod_size (nod_one n k hk) (h _ (setRow_heap w g _ _ _ _ hr) (grownBy.setRow' (grownBy.refl' w _) _))
set_option maxRecDepth 100000 in
set_option maxHeartbeats 1600000 in
theorem isGone_any (w:World) (A:Option Addr) (n cap:Nat) (xs:List Int) (nw:Int) (k:Nat) (h:IR w w.heap.size A n cap xs) :
 Calls Tryz.prog 209 #[.agg #[.slice A n cap,.int .i64 nw],.int .i64 (k:Int)] w fun e w'=>e = .returned (.bool (goneM xs k))∧Below w.heap.size w w':=by
 have HB:=Lib.hid (below_pr 193 w (.slice A n cap) nw)
 have HP:=Lib.hid (PrAt.new 193 w (.slice A n cap) nw)
 have HX:=Lib.hid h
 have HL:=Lib.hid h.len.1
 clear h
 by_cases hin:k<n
 · have hii:(k:Int)<(n:Int):=by omega
   have hi0:(0:Int)≤(k:Int):=by omega
   obtain ⟨pb,po,rfl,hpb,e0⟩:=ir_at HX.out hin
   have hg:goneM xs k=decide (xs.getD k 0 = -1):=by
    unfold goneM
    rw [getD_some xs k (by rw [HL.out];exact hin)]
    by_cases hx:xs.getD k 0 = -1
    · rw [hx];rfl
    · rw [decide_eq_false hx,decide_eq_false (fun e=>hx (Option.some.inj e))]
   obtain ⟨x,hx⟩:∃ x,xs.getD k 0=x:=⟨_,rfl⟩
   rw [hx] at e0 hg
   have HE:=Lib.hid e0;have HPB:=Lib.hid hpb;have HG:=Lib.hid hg
   clear e0 hx hpb hg
   go_enter Tryz.func209,Tryz.ntmps209
   go_upto_region 1 with (fail)
   obtain ⟨w1,hw1⟩:∃ w1,w.alloc (.cells #[.slice (some ⟨pb,po,none⟩) n cap,.int .i64 nw] 193)=w1:=⟨_,rfl⟩
   rw [hw1] at HB HP ⊢
   clear hw1
   obtain ⟨x0,x1⟩:=HP.out.cells
   have x2:w1.cell? ⟨pb,po+k,none⟩=some (.int .i64 x):=(HB.out.cell (p:=⟨pb,po+k,none⟩) HPB.out).trans HE.out
   by_cases hx:x = -1
   · have hxb:(x == -1)=true:=by rw [hx];rfl
     have HX1:=Lib.hid hx
     clear hx
     go_wp2_with fail
     go_ret
     exact ⟨by rw [HG.out,decide_eq_true HX1.out];rfl,HB.out⟩
   · have hxb:(x == -1)=false:=by rw [beq_eq_false_iff_ne];exact hx
     have HX1:=Lib.hid hx
     clear hx
     go_wp2_with fail
     go_ret
     exact ⟨by rw [HG.out,decide_eq_false HX1.out];rfl,HB.out⟩
 · have hii:¬ (k:Int)<(n:Int):=by omega
   have HG:=Lib.hid (show goneM xs k=false from by
    unfold goneM
    rw [List.getElem?_eq_none (by rw [HL.out];omega)];rfl)
   go_enter Tryz.func209,Tryz.ntmps209
   go_upto_region 1 with (fail)
   obtain ⟨w1,hw1⟩:∃ w1,w.alloc (.cells #[.slice A n cap,.int .i64 nw] 193)=w1:=⟨_,rfl⟩
   rw [hw1] at HB HP ⊢
   clear hw1
   obtain ⟨x0,x1⟩:=HP.out.cells
   go_wp2_with fail
   go_ret
   exact ⟨by rw [HG.out];rfl,HB.out⟩
theorem goneM_lt {xs:List Int} {k:Nat} (h:goneM xs k=true):k<xs.length:=by
 unfold goneM at h
 rw [decide_eq_true_eq] at h
 exact (List.getElem?_eq_some_iff.1 h).1
set_option maxRecDepth 100000 in
set_option maxHeartbeats 4000000 in
theorem firstKept_any (w:World) (A:Option Addr) (n cap:Nat) (xs:List Int) (nw hi:Int) (lo:Nat) (h:IR w w.heap.size A n cap xs) (hh:hi≤4398046511104) :
 Calls Tryz.prog 179 #[.agg #[.slice A n cap,.int .i64 nw],.int .i64 (lo:Int),.int .i64 hi] w fun e w'=>e = .returned (.int .i64 (firstK xs (hi+1 - lo).toNat lo:Nat))∧Below w.heap.size w w':=by
 have HB:=Lib.hid (below_pr 193 w (.slice A n cap) nw)
 have HP:=Lib.hid (PrAt.new 193 w (.slice A n cap) nw)
 have HX:=Lib.hid h
 have HL:=Lib.hid h.len.1
 clear h
 obtain ⟨F,hF⟩:∃ F,firstK xs (hi+1 - lo).toNat lo=F:=⟨_,rfl⟩
 rw [hF]
 have HF:=Lib.hid hF
 clear hF
 go_enter Tryz.func179,Tryz.ntmps179
 go_upto_region 1 with (fail)
 obtain ⟨w1,hw1⟩:∃ w1,w.alloc (.cells #[.slice A n cap,.int .i64 nw] 193)=w1:=⟨_,rfl⟩
 rw [hw1] at HB HP ⊢
 clear hw1
 have HX1:=Lib.hid (HX.out.lift HB.out)
 go_loopw [1] (fun iv wr=>∃ k:Nat,iv = .int .i64 (k:Int)∧Hid (firstK xs (hi+1 - k).toNat k=F)∧Hid (Below w1.heap.size w1 wr))
  (fun iv _=>n - (intOf iv).toNat)
 case atStart=>exact ⟨lo,rfl,HF,Lib.hid (Below.refl _ _)⟩
 case round =>
  obtain ⟨k,rfl,HK,HR⟩:=hrel
  obtain ⟨x0,x1⟩:=(HP.out.over HR.out).cells
  by_cases hle:(k:Int)≤hi
  · have HM:=Lib.hid (show (hi+1 - (k:Int)).toNat=(hi+1 - ((k+1:Nat):Int)).toNat+1 by omega)
    have hc:=isGone_any wr A n cap xs nw k (HX1.out.lift HR.out)
    cases hg:goneM xs k with
    | true =>
      have hkn:=goneM_lt hg
      rw [HL.out] at hkn
      rw [hg] at hc
      have HC:=Lib.hid hc
      have HN:=Lib.hid (show firstK xs (hi+1 - ((k+1:Nat):Int)).toNat (k+1)=F from by
       have h1:=HK.out
       rw [HM.out] at h1
       unfold firstK at h1
       rwa [if_pos hg] at h1)
      clear hc hg
      go_wp2_with (go_at_call 209;((with_reducible refine HC.out.mono ?_);rintro e w2 ⟨rfl,h1⟩;have H2:=Lib.hid (HR.out.trans (h1.mono HR.out.size));clear h1))
      go_roundw
      case rel=>exact ⟨k+1,by go_num,HN,H2⟩
      case measure=>simp [intOf];omega
    | false =>
      rw [hg] at hc
      have HC:=Lib.hid hc
      have HN:=Lib.hid (show k=F from by
       have h1:=HK.out
       rw [HM.out] at h1
       unfold firstK at h1
       rwa [if_neg (by rw [hg];decide)] at h1)
      clear hc hg
      go_wp2_with (go_at_call 209;((with_reducible refine HC.out.mono ?_);rintro e w2 ⟨rfl,h1⟩;have H2:=Lib.hid (HR.out.trans (h1.mono HR.out.size));clear h1))
      go_ret
      exact ⟨by rw [← HN.out];rfl,HB.out.trans (H2.out.mono HB.out.size)⟩
  · have HN:=Lib.hid (show k=F from by
     have h1:=HK.out
     rw [show (hi+1 - (k:Int)).toNat=0 by omega] at h1
     exact h1)
    go_wp2_with fail
    go_ret
    exact ⟨by rw [← HN.out];rfl,HB.out.trans (HR.out.mono HB.out.size)⟩
set_option maxRecDepth 100000 in
set_option maxHeartbeats 4000000 in
theorem lastKept_any (w:World) (A:Option Addr) (n cap:Nat) (xs:List Int) (nw:Int) (lo hi:Nat) (h:IR w w.heap.size A n cap xs) (hlh:lo≤hi) (hh:(hi:Int)≤4398046511104) :
 Calls Tryz.prog 180 #[.agg #[.slice A n cap,.int .i64 nw],.int .i64 (lo:Int),.int .i64 (hi:Int)] w fun e w'=>e = .returned (.int .i64 (lastK xs (hi - lo) hi:Nat))∧Below w.heap.size w w':=by
 have HB:=Lib.hid (below_pr 193 w (.slice A n cap) nw)
 have HP:=Lib.hid (PrAt.new 193 w (.slice A n cap) nw)
 have HX:=Lib.hid h
 have HL:=Lib.hid h.len.1
 clear h
 obtain ⟨F,hF⟩:∃ F,lastK xs (hi - lo) hi=F:=⟨_,rfl⟩
 rw [hF]
 have HF:=Lib.hid hF
 clear hF
 go_enter Tryz.func180,Tryz.ntmps180
 go_upto_region 1 with (fail)
 obtain ⟨w1,hw1⟩:∃ w1,w.alloc (.cells #[.slice A n cap,.int .i64 nw] 193)=w1:=⟨_,rfl⟩
 rw [hw1] at HB HP ⊢
 clear hw1
 have HX1:=Lib.hid (HX.out.lift HB.out)
 go_loopw [2] (fun iv wr=>∃ k:Nat,iv = .int .i64 (k:Int)∧lo≤k∧(k:Int)≤4398046511104∧Hid (lastK xs (k - lo) k=F)∧Hid (Below w1.heap.size w1 wr))
  (fun iv _=>(intOf iv).toNat)
 case atStart=>exact ⟨hi,rfl,hlh,hh,HF,Lib.hid (Below.refl _ _)⟩
 case round =>
  obtain ⟨k,rfl,hlk,hkb,HK,HR⟩:=hrel
  obtain ⟨x0,x1⟩:=(HP.out.over HR.out).cells
  by_cases hle:(lo:Int)<(k:Int)
  · have HM:=Lib.hid (show k - lo=(k - 1 - lo)+1 by omega)
    have hc:=isGone_any wr A n cap xs nw k (HX1.out.lift HR.out)
    cases hg:goneM xs k with
    | true =>
      rw [hg] at hc
      have HC:=Lib.hid hc
      have HN:=Lib.hid (show lastK xs (k - 1 - lo) (k - 1)=F from by
       have h1:=HK.out
       rw [HM.out] at h1
       unfold lastK at h1
       rwa [if_pos hg] at h1)
      clear hc hg
      go_wp2_with (go_at_call 209;((with_reducible refine HC.out.mono ?_);rintro e w2 ⟨rfl,h1⟩;have H2:=Lib.hid (HR.out.trans (h1.mono HR.out.size));clear h1))
      go_roundw
      case rel=>exact ⟨k - 1,by go_num,by omega,by omega,HN,H2⟩
      case measure=>simp [intOf];omega
    | false =>
      rw [hg] at hc
      have HC:=Lib.hid hc
      have HN:=Lib.hid (show k=F from by
       have h1:=HK.out
       rw [HM.out] at h1
       unfold lastK at h1
       rwa [if_neg (by rw [hg];decide)] at h1)
      clear hc hg
      go_wp2_with (go_at_call 209;((with_reducible refine HC.out.mono ?_);rintro e w2 ⟨rfl,h1⟩;have H2:=Lib.hid (HR.out.trans (h1.mono HR.out.size));clear h1))
      go_ret
      exact ⟨by rw [← HN.out];rfl,HB.out.trans (H2.out.mono HB.out.size)⟩
  · have HN:=Lib.hid (show k=F from by
     have h1:=HK.out
     rw [show k - lo=0 by omega] at h1
     exact h1)
    go_wp2_with fail
    go_ret
    exact ⟨by rw [← HN.out];rfl,HB.out.trans (HR.out.mono HB.out.size)⟩
def s3 (p:Int × Int × Bool):Value := .tuple #[.int .i64 p.1,.int .i64 p.2.1,.bool p.2.2]
theorem spanM_low (xs:List Int) (nw lo hi:Int) (h:lo<0):spanM xs nw lo hi=(0,0,false):=by unfold spanM;rw [if_pos (.inl h)]
theorem spanM_none (xs:List Int) (nw hi:Int) (k:Nat) (h:hi<(firstK xs (hi+1 - k).toNat k:Int)):spanM xs nw k hi=(0,0,false):=by
 unfold spanM
 split
 · rfl
 · rw [Int.toNat_natCast,if_pos h]
theorem spanM_some (xs:List Int) (nw:Int) (k j:Nat) (h:¬ (j:Int)<(firstK xs ((j:Int)+1 - k).toNat k:Int)) :
 spanM xs nw k j=(imgM xs nw (firstK xs ((j:Int)+1 - k).toNat k:Nat),imgM xs nw (lastK xs (j - firstK xs ((j:Int)+1 - k).toNat k) j:Nat),true):=by
 have hl:=(firstK_low xs ((j:Int)+1 - k).toNat k).1
 unfold spanM
 rw [Int.toNat_natCast,Int.toNat_natCast,if_neg (by omega),if_neg h]
set_option maxRecDepth 100000 in
set_option maxHeartbeats 4000000 in
theorem spanMap_any (w:World) (A:Option Addr) (n cap:Nat) (xs:List Int) (nw lo hi:Int) (h:IR w w.heap.size A n cap xs) (hn:n≤2000000) (h0:0≤nw) (h1:nw≤2000000) (hh:hi≤4398046511104) :
 Calls Tryz.prog 147 #[.agg #[.slice A n cap,.int .i64 nw],.int .i64 lo,.int .i64 hi] w fun e w'=>e = .returned (s3 (spanM xs nw lo hi))∧Below w.heap.size w w':=by
 have HB:=Lib.hid (below_pr 60 w (.slice A n cap) nw)
 have HP:=Lib.hid (PrAt.new 60 w (.slice A n cap) nw)
 have HX:=Lib.hid h
 clear h
 by_cases hneg:lo<0
 · have HV:=Lib.hid (spanM_low xs nw lo hi hneg)
   go_enter Tryz.func147,Tryz.ntmps147
   go_wp2_with fail
   go_ret3
   exact ⟨by rw [HV.out];rfl,HB.out⟩
 · obtain ⟨k,rfl⟩:∃ k:Nat,lo=(k:Int):=⟨lo.toNat,by omega⟩
   go_enter Tryz.func147,Tryz.ntmps147
   go_upto_region 1 with (fail)
   obtain ⟨w1,hw1⟩:∃ w1,w.alloc (.cells #[.slice A n cap,.int .i64 nw] 60)=w1:=⟨_,rfl⟩
   rw [hw1] at HB HP ⊢
   clear hw1
   obtain ⟨x0,x1⟩:=HP.out.cells
   go_upto_region 4 with (fail)
   clear x0 x1
   have HB1:=Lib.hid (below_pr 193 w1 (.slice A n cap) nw)
   have HW:=Lib.hid (PrAt.new 193 w1 (.slice A n cap) nw)
   obtain ⟨w2,hw2⟩:∃ w2,w1.alloc (.cells #[.slice A n cap,.int .i64 nw] 193)=w2:=⟨_,rfl⟩
   rw [hw2] at HB1 HW ⊢
   clear hw2
   have HB2:=Lib.hid (HB.out.trans (HB1.out.mono HB.out.size))
   have HX2:=Lib.hid (HX.out.lift HB2.out)
   obtain ⟨F,hF⟩:∃ F,firstK xs (hi+1 - k).toNat k=F:=⟨_,rfl⟩
   have hf:=firstKept_any w2 A n cap xs nw hi k HX2.out hh
   rw [hF] at hf
   have HFK:=Lib.hid hf;have HFE:=Lib.hid hF
   clear hf hF
   obtain ⟨x0,x1⟩:=HW.out.cells
   go_upto_region 5 with (go_at_call 179;((with_reducible refine HFK.out.mono ?_);rintro e w3 ⟨rfl,h3⟩;have H3:=Lib.hid h3;clear h3))
   clear x0 x1
   have HB3:=Lib.hid (HB2.out.trans (H3.out.mono HB2.out.size))
   by_cases hlt:hi<(F:Int)
   · have HV:=Lib.hid (spanM_none xs nw hi k (by rw [HFE.out];exact hlt))
     go_wp2_with fail
     go_ret3
     exact ⟨by rw [HV.out];rfl,HB3.out⟩
   · obtain ⟨j,rfl⟩:∃ j:Nat,hi=(j:Int):=⟨hi.toNat,by omega⟩
     have hv:=spanM_some xs nw k j (by rw [HFE.out];exact hlt)
     rw [HFE.out] at hv
     have hll:=lastK_low xs (j - F) j
     have HX3:=Lib.hid (HX2.out.lift H3.out)
     have HIL:=Lib.hid (fun (wq:World) (hb:Below w3.heap.size w3 wq)=>lastKept_any wq A n cap xs nw F j (HX3.out.lift hb) (by omega) hh)
     obtain ⟨L,hL⟩:∃ L,lastK xs (j - F) j=L:=⟨_,rfl⟩
     rw [hL] at hv HIL hll
     have HV:=Lib.hid hv
     have HI1:=Lib.hid (fun (wq:World) (hb:Below w3.heap.size w3 wq)=>wayImage_any wq A n cap xs nw (F:Int) (HX3.out.lift hb) hn h0 h1 (by omega))
     have HI3:=Lib.hid (fun (wq:World) (hb:Below w3.heap.size w3 wq)=>wayImage_any wq A n cap xs nw (L:Int) (HX3.out.lift hb) hn h0 h1 (by omega))
     have HW3:=Lib.hid (HW.out.over H3.out)
     have HKEEP:=Lib.hid (fun (wq:World) (hb:Below w3.heap.size w3 wq)=>(HW3.out.over hb).cells)
     have HBD:=Lib.hid (Below.drew (Below.refl w3.heap.size w3))
     clear hL hv hll
     obtain ⟨x0,x1⟩:=HW3.out.cells
     go_upto_region 7 with (fail)
     clear x0 x1
     obtain ⟨x0,x1⟩:=HKEEP.out _ HBD.out
     go_region_held3 (fun w'=>w'.cell? ⟨w1.heap.size,0,none⟩=some (.slice A n cap)∧w'.cell? ⟨w1.heap.size,1,none⟩=some (.int .i64 nw)) (first | exact ⟨x0,x1⟩ | exact HKEEP.out _ H6.out | exact HKEEP.out _ H5.out | exact HKEEP.out _ H4.out) (first
      | (go_at_call 148;((with_reducible refine (HI1.out _ HBD.out).mono ?_);rintro e w4 ⟨rfl,h1⟩;have H4:=Lib.hid (HBD.out.trans (h1.mono HBD.out.size));clear h1))
      | (go_at_call 180;((with_reducible refine (HIL.out _ H4.out).mono ?_);rintro e w5 ⟨rfl,h1⟩;have H5:=Lib.hid (H4.out.trans (h1.mono H4.out.size));clear h1))
      | (go_at_call 148;((with_reducible refine (HI3.out _ H5.out).mono ?_);rintro e w6 ⟨rfl,h1⟩;have H6:=Lib.hid (H5.out.trans (h1.mono H5.out.size));clear h1)))
     all_goals go_wp2_with fail
     all_goals go_ret3
     all_goals exact ⟨by rw [HV.out];rfl,HB3.out.trans (H6.out.mono HB3.out.size)⟩
theorem NdAt.set {w:World} {b:Nat} {n n':Nd} {k k':Value} (h:NdAt w b n k) (o:Nat) (v:Value) (he:(nodA n k).setIfInBounds o v=nodA n' k'):NdAt (w.setCell ⟨b,o,none⟩ v) b n' k':=by
 unfold NdAt;rw [heap_setCell_same w b o _ _ v h,he]
theorem NdAt.other1 {w:World} {b:Nat} {n:Nd} {k:Value} (h:NdAt w b n k) (a:Addr) (v:Value) (hne:b≠a.block):NdAt (w.setCell a v) b n k:=by
 unfold NdAt;rw [Below.heap_setCell _ _ _ _ hne];exact h
theorem SfAt.other1 {w:World} {b:Nat} {x:Sw} (h:SfAt w b x) (a:Addr) (v:Value) (hne:b≠a.block):SfAt (w.setCell a v) b x:=h.keep (Below.heap_setCell _ _ _ _ hne)
theorem SfAt.over {w w':World} {b:Nat} {x:Sw} (h:SfAt w b x) (hb:Below w.heap.size w w'):SfAt w' b x:=h.keep (hb.block b h.lt)
theorem NdAt.over1 {w w':World} {b:Nat} {n:Nd} {k:Value} (h:NdAt w b n k) (hb:Below w.heap.size w w'):NdAt w' b n k:=h.below hb h.lt
theorem NdAt.melt {w:World} {b:Nat} {n:Nd} {k:Value} (h:NdAt w b n k) (o:Nat):w.frozen? ⟨b,o,none⟩=false:=frozen_of_row w b o _ _ h
structure Pre3 (w w1:World) (n:Nd) (k:Value) (x:Sw) (z:Nat):Prop where
 below:Below w.heap.size w w1
 nod:NdAt w1 z n k
 sh:SfAt w1 (z+1) x
 res:NdAt w1 (z+2) Nd.zero (.slice none 0 0)
 size:z+3≤w1.heap.size
 low:w.heap.size≤z
theorem pre3 (w:World) (n:Nd) (A:Option Addr) (m c:Nat) (x:Sw):∃ w1,((w.alloc (.cells #[.int .i64 n.kind,.int .i64 n.num,.string n.text,.string n.ref.sh,.int .i64 n.ref.c,.int .i64 n.ref.r,.bool n.ref.ac,.bool n.ref.ar,.string n.to.sh,.int .i64 n.to.c,.int .i64 n.to.r,.bool n.to.ac,.bool n.to.ar,.slice A m c] 48)).alloc (.cells #[.string x.s.sh,.slice x.ra x.s.rx.length x.rc,.int .i64 x.s.rn,.slice x.ca x.s.cx.length x.cc,.int .i64 x.s.cn,.bool x.s.gone] 63)).alloc (.cells zNod 48)=w1∧Pre3 w w1 n (.slice A m c) x w.heap.size:=by
 refine ⟨_,rfl,(((Below.refl _ w).alloc (Nat.le_refl _) _).alloc (by simp) _).alloc (by simp;omega) _, ?_, ?_, ?_,by simp,Nat.le_refl _⟩
 · exact (Below.heap_alloc _ _ _ (by simp;omega)).trans ((Below.heap_alloc _ _ _ (by simp)).trans (NdAt.new w n (.slice A m c)))
 · have h:=SfAt.new (w.alloc (.cells (nodA n (.slice A m c)) 48)) x
   rw [World.size_alloc] at h
   exact (Below.heap_alloc _ _ _ (by simp)).trans h
 · have h:=NdAt.new ((w.alloc (.cells (nodA n (.slice A m c)) 48)).alloc (.cells (shfA x) 63)) Nd.zero (.slice none 0 0)
   rw [World.size_alloc,World.size_alloc] at h
   exact h
theorem Pre3.call {w w1 w2:World} {n:Nd} {k:Value} {x:Sw} {z:Nat} (h:Pre3 w w1 n k x z) (hb:Below w1.heap.size w1 w2):Pre3 w w2 n k x z :=
 ⟨h.below.trans (hb.mono h.below.size),h.nod.over1 hb,h.sh.over hb,h.res.over1 hb,Nat.le_trans h.size hb.size,h.low⟩
theorem Pre3.put {w w1:World} {n n':Nd} {k k':Value} {x:Sw} {z:Nat} (h:Pre3 w w1 n k x z) (o:Nat) (v:Value) (he:(nodA n k).setIfInBounds o v=nodA n' k'):Pre3 w (w1.setCell ⟨z,o,none⟩ v) n' k' x z :=
 ⟨h.below.setCell h.low _,h.nod.set o v he,h.sh.other1 _ _ (by show z+1≠z;omega),h.res.other1 _ _ (by show z+2≠z;omega),by simpa using h.size,h.low⟩
theorem spanT (w:World) (A:Option Addr) (n cap:Nat) (xs:List Int) (nw lo hi:Int) (h:IR w w.heap.size A n cap xs) (hn:n≤2000000) (h0:0≤nw) (h1:nw≤2000000) (hh:hi≤4398046511104) {a b:Int} {o:Bool} (hp:spanM xs nw lo hi=(a,b,o)) :
 Calls Tryz.prog 147 #[.agg #[.slice A n cap,.int .i64 nw],.int .i64 lo,.int .i64 hi] w fun e w'=>e = .returned (.tuple #[.int .i64 a,.int .i64 b,.bool o])∧Below w.heap.size w w':=by
 have h:=spanMap_any w A n cap xs nw lo hi h hn h0 h1 hh
 rw [hp] at h;exact h
theorem res_spanAlong:Tryz.f117.results=#[.cell 4 48,.tmp 5]:=by kernel_rfl
structure SmN (n:Nd):Prop where
 r:n.ref.r≤1000000
 c:n.ref.c≤1000000
 tr:n.to.r≤1000000
 tc:n.to.c≤1000000
 sh:n.ref.sh.size≤1000000
 tsh:n.to.sh.size≤1000000
set_option maxRecDepth 100000 in
set_option maxHeartbeats 16000000 in
theorem spanAlong_any (w:World) (n:Nd) (A:Option Addr) (m c:Nat) (x:Sw) (hx:SwR w w.heap.size x) (ho:SfOk x.s) (hn:SmN n) :
 Calls Tryz.prog 117 #[.agg (nodA n (.slice A m c)),.agg (shfA x)] w fun e w'=>e = .returned (.tuple #[.agg (nodA (spanS n x.s) (.slice A m c)),.bool (spanOk n x.s&&mayRf (spanS n x.s).to)])∧Below w.heap.size w w':=by
 obtain ⟨w1,hw1,hp⟩:=pre3 w n A m c x
 have HP:=Lib.hid hp;have HX:=Lib.hid hx
 have h1:=ho.rows.len;have h2:=ho.rows.low;have h3:=ho.rows.top;have h4:=ho.cols.len;have h5:=ho.cols.low;have h6:=ho.cols.top
 have g1:=hn.r;have g2:=hn.c;have g3:=hn.tr;have g4:=hn.tc
 have HTS:=Lib.hid hn.tsh
 obtain ⟨⟨a1,a2,ao⟩,ha⟩:∃ p,spanM x.s.rx x.s.rn n.ref.r n.to.r=p:=⟨_,rfl⟩
 obtain ⟨⟨b1,b2,bo⟩,hb⟩:∃ p,spanM x.s.cx x.s.cn n.ref.c n.to.c=p:=⟨_,rfl⟩
 have hspan:spanS n x.s=n.goto4 a1 b1 a2 b2:=by unfold spanS;rw [ha,hb]
 have hok:spanOk n x.s=(ao&&bo):=by unfold spanOk;rw [ha,hb]
 have HS1:=Lib.hid (fun (wq:World) (hq:Below w1.heap.size w1 wq)=>spanT wq x.ra x.s.rx.length x.rc x.s.rx x.s.rn n.ref.r n.to.r ((hx.lift HP.out.below).lift hq).rows (by omega) h2 (by omega) (by omega) ha)
 have HS2:=Lib.hid (fun (wa:World) (ha:Below w.heap.size w wa) {wq:World} (hq:Below wa.heap.size wa wq)=>spanT wq x.ca x.s.cx.length x.cc x.s.cx x.s.cn n.ref.c n.to.c ((hx.lift ha).lift hq).cols (by omega) h5 (by omega) (by omega) hb)
 rw [hspan,hok]
 obtain ⟨z,hz⟩:∃ z,w.heap.size=z:=⟨_,rfl⟩
 have HZ:=Lib.hid hz
 rw [hz] at HP
 clear hx ho hn ha hb hspan hok hp hz
 have x0:=HP.out.nod.cells
 have y0:=HP.out.sh.cells
 dsimp only [Sw.rv,Sw.cv] at y0
 show Calls Tryz.prog 117 #[.agg #[.int .i64 n.kind,.int .i64 n.num,.string n.text,.string n.ref.sh,.int .i64 n.ref.c,.int .i64 n.ref.r,.bool n.ref.ac,.bool n.ref.ar,.string n.to.sh,.int .i64 n.to.c,.int .i64 n.to.r,.bool n.to.ac,.bool n.to.ar,.slice A m c],.agg #[.string x.s.sh,.slice x.ra x.s.rx.length x.rc,.int .i64 x.s.rn,.slice x.ca x.s.cx.length x.cc,.int .i64 x.s.cn,.bool x.s.gone]] w _
 go_enter Tryz.func117,Tryz.ntmps117
 go_upto_region 2 with (fail)
 rw [HZ.out]
 obtain ⟨x0,x1,x2,x3,x4,x5,x6,x7,x8,x9,x10,x11,x12,x13⟩:=x0
 obtain ⟨y0,y1,y2,y3,y4,y5⟩:=y0
 rw [show z+1+1=z+2 from rfl]
 go_upto_region 3 with (go_at_call 147;((with_reducible refine (HS1.out _ (Below.refl _ _)).mono ?_);rintro e w2 ⟨rfl,hq⟩;have HP2:=Lib.hid (HP.out.call hq);have f5:=HP2.out.nod.melt 5;have f10:=HP2.out.nod.melt 10;clear x0 x1 x2 x3 x4 x5 x6 x7 x8 x9 x10 x11 x12 x13 y0 y1 y2 y3 y4 y5 hq;obtain ⟨x0,x1,x2,x3,x4,x5,x6,x7,x8,x9,x10,x11,x12,x13⟩:=HP2.out.nod.cells;obtain ⟨y0,y1,y2,y3,y4,y5⟩:=HP2.out.sh.cells))
 have HP3:=Lib.hid ((HP2.out.put 5 (.int .i64 a1) (n':=n.goto4 a1 n.ref.c n.to.r n.to.c) rfl).put 10 (.int .i64 a2) (n':=n.goto4 a1 n.ref.c a2 n.to.c) rfl)
 clear x0 x1 x2 x3 x4 x5 x6 x7 x8 x9 x10 x11 x12 x13 y0 y1 y2 y3 y4 y5 f5 f10
 obtain ⟨w3,hw3⟩:∃ w3,(w2.setCell ⟨z,5,none⟩ (.int .i64 a1)).setCell ⟨z,10,none⟩ (.int .i64 a2)=w3:=⟨_,rfl⟩
 rw [hw3] at HP3 ⊢
 clear hw3
 have HC2:=Lib.hid (HS2.out _ HP3.out.below (Below.refl _ w3))
 obtain ⟨x0,x1,x2,x3,x4,x5,x6,x7,x8,x9,x10,x11,x12,x13⟩:=HP3.out.nod.cells
 obtain ⟨y0,y1,y2,y3,y4,y5⟩:=HP3.out.sh.cells
 dsimp only [Sw.rv,Sw.cv] at y1 y3
 dsimp only [Nd.goto4,Rf.goto] at x0 x1 x2 x3 x4 x5 x6 x7 x8 x9 x10 x11 x12 x13
 go_upto_region 4 with (go_at_call 147;((with_reducible refine HC2.out.mono ?_);rintro e w4 ⟨rfl,hq⟩;have HP4:=Lib.hid (HP3.out.call hq);have f4:=HP4.out.nod.melt 4;have f9:=HP4.out.nod.melt 9;clear x0 x1 x2 x3 x4 x5 x6 x7 x8 x9 x10 x11 x12 x13 y0 y1 y2 y3 y4 y5 hq;obtain ⟨x0,x1,x2,x3,x4,x5,x6,x7,x8,x9,x10,x11,x12,x13⟩:=HP4.out.nod.cells;obtain ⟨y0,y1,y2,y3,y4,y5⟩:=HP4.out.sh.cells;dsimp only [Nd.goto4,Rf.goto] at x0 x1 x2 x3 x4 x5 x6 x7 x8 x9 x10 x11 x12 x13))
 have HP5:=Lib.hid ((HP4.out.put 4 (.int .i64 b1) (n':=n.goto4 a1 b1 a2 n.to.c) rfl).put 9 (.int .i64 b2) (n':=n.goto4 a1 b1 a2 b2) rfl)
 clear x0 x1 x2 x3 x4 x5 x6 x7 x8 x9 x10 x11 x12 x13 y0 y1 y2 y3 y4 y5 f4 f9
 obtain ⟨w5,hw5⟩:∃ w5,(w4.setCell ⟨z,4,none⟩ (.int .i64 b1)).setCell ⟨z,9,none⟩ (.int .i64 b2)=w5:=⟨_,rfl⟩
 rw [hw5] at HP5 ⊢
 clear hw5
 obtain ⟨N,hN⟩:∃ N,n.goto4 a1 b1 a2 b2=N:=⟨_,rfl⟩
 have hNs:N.to.sh=n.to.sh:=by rw [← hN];rfl
 rw [hN] at HP5
 have HNN:=Lib.hid hN
 have HMY:=Lib.hid (fun wq=>may_any N.to.sh N.to.c N.to.r N.to.ac N.to.ar wq (by rw [hNs];exact HTS.out))
 have HBD:=Lib.hid (Below.drew (Below.refl w5.heap.size w5))
 have HSK:=Lib.hid (fun (wq:World) (hq:Below w5.heap.size w5 wq)=>HP5.out.nod.over1 hq)
 have HSS:(fun wq=>NdAt wq z N (.slice A m c)) w5.drew:=HSK.out _ HBD.out
 clear hN hNs
 refine wp_region_held_drew (S:=(fun wq=>NdAt wq z N (.slice A m c))) (by kernel_rfl) HSS (fun _ => ?_)
 show wpAnyH _ _ _ _ _ 12 #[false,false,false,false,false,false,false,false,false,false,false,false] _ _
 refine hT 0 HSS ?_ (hy:=by (intro wS hSw;have hz:=NdAt.cells hSw;go_simp;try (with_reducible rfl)))
 refine hT 1 HSS ?_
 refine hT 2 HSS ?_
 by_cases hab:(ao&&bo)=true
 case' pos =>
  obtain ⟨rfl,rfl⟩:=Bool.and_eq_true_iff.1 hab
  refine hT 3 HSS ?_
  refine hT 4 HSS ?_
  refine hT 5 HSS ?_
  refine hT 6 HSS ?_
  refine hT 7 HSS ?_ (hy:=by (intro wS hSw;have hz:=NdAt.cells hSw;go_simp;try (with_reducible rfl)))
  refine hO 8 (fun K hK => ?_)
  go_simp
  go_at_call 119
  (with_reducible refine (HMY.out _).mono ?_)
  rintro e w6 ⟨rfl,h1⟩
  have H6:=Lib.hid (HBD.out.trans (h1.mono HBD.out.size))
  clear h1
  dsimp only
  refine hK.out _ _ (HSK.out _ H6.out) ?_
  clear hK K
  simp only [Act.put,sT,sZ,sS]
 case' neg =>
  obtain ⟨w6,hw6⟩:∃ w6,w5.drew=w6:=⟨_,rfl⟩
  rw [hw6] at HBD HSS ⊢
  have H6:=Lib.hid HBD.out
  have h45:(ao=false)∨(ao=true∧bo=false):=by cases ao <;> cases bo <;> simp at hab ⊢
  rcases h45 with rfl | ⟨rfl,rfl⟩
  all_goals first | refine hN 3 HSS ?_ | refine hT 3 HSS ?_
  all_goals refine hT 4 HSS ?_
  all_goals refine hT 5 HSS ?_
  all_goals refine hN 6 HSS ?_
  all_goals refine hN 7 HSS ?_
  all_goals refine hN 8 HSS ?_
 all_goals
  have HS6:=HSK.out _ H6.out
  refine hT 9 HS6 ?_
  refine hO 10 (fun K hK => ?_)
  refine wp_store_nod (.tmp 4) (.tmp 42) rfl (z+2) Nd.zero N (.slice none 0 0) (.slice A m c) rfl rfl (HP5.out.res.over1 H6.out) rfl ?_
  intro w7 h1 h2
  have hlt:=HP5.out.size
  have hs6:=H6.out.size
  have HS7:(fun wq=>NdAt wq z N (.slice A m c)) w7:=(show NdAt w7 z N (.slice A m c) from by unfold NdAt;rw [h2.block z (by omega) (by intro e;injection e with e;omega)];exact HS6)
  refine hK.out _ _ HS7 ?_
  clear hK K
  simp only [Act.put]
  refine hT 11 HS7 ?_
  refine wpAnyH_done (by kernel_rfl) ?_ _
  go_wp2_with fail
  refine bodyPost_ret (out_nod h1 _ _ _ 4 5 res_spanAlong rfl rfl) rfl ⟨?_, ?_⟩
  · first | (rw [HNN.out];done) | (rw [HNN.out];rfl)
  · have hb5:=HP5.out.below
    have hlow:=HP5.out.low
    have hb6:=hb5.trans (H6.out.mono hb5.size)
    exact ⟨h2.os.trans hb6.os,h2.tape.trans hb6.tape,h2.output.trans hb6.output,Nat.le_trans hb6.size h2.size,fun k hk=>(h2.block k (Nat.lt_of_lt_of_le hk hb6.size) (by intro e;injection e with e;omega)).trans (hb6.block k hk)⟩
theorem res_along:Tryz.f82.results=#[.cell 4 48,.tmp 5]:=by kernel_rfl
theorem Pre3.resAt {w w1 w2:World} {n:Nd} {k:Value} {x:Sw} {z:Nat} (h:Pre3 w w1 n k x z) (hg:w1.grownBy w2 (some (z+2))):Below w.heap.size w w2:=by
 have hb:=h.below
 have hl:=h.low
 exact ⟨hg.os.trans hb.os,hg.tape.trans hb.tape,hg.output.trans hb.output,Nat.le_trans hb.size hg.size,fun k hk=>(hg.block k (Nat.lt_of_lt_of_le hk hb.size) (by intro e;injection e with e;omega)).trans (hb.block k hk)⟩
def AlongR (w:World) (n:Nd) (s:Sf) (kv:Value) (e:Ending) (w':World):Prop :=
 ∃ M K,e = .returned (.tuple #[.agg (nodA M K),.bool (alongN n s).2])∧((alongN n s).2=true→M=(alongN n s).1∧K=kv)∧K.oneCell'=true∧Below w.heap.size w w'
set_option maxRecDepth 100000 in
set_option maxHeartbeats 16000000 in
theorem along_any (w:World) (n:Nd) (A:Option Addr) (m c:Nat) (x:Sw) (hx:SwR w w.heap.size x) (ho:SfOk x.s) (hn:SmN n) :
 Calls Tryz.prog 82 #[.agg (nodA n (.slice A m c)),.agg (shfA x)] w (AlongR w n x.s (.slice A m c)):=by
 obtain ⟨w1,hw1,hp⟩:=pre3 w n A m c x
 have HP:=Lib.hid hp;have HX:=Lib.hid hx;have HO:=Lib.hid ho;have HN:=Lib.hid hn
 have h1:=ho.rows.len;have h2:=ho.rows.low;have h3:=ho.rows.top;have h4:=ho.cols.len;have h5:=ho.cols.low;have h6:=ho.cols.top
 have g1:=hn.r;have g2:=hn.c
 obtain ⟨z,hz⟩:∃ z,w.heap.size=z:=⟨_,rfl⟩
 have HZ:=Lib.hid hz
 rw [hz] at HP
 clear hx ho hn hp hz
 have x0:=HP.out.nod.cells
 have y0:=HP.out.sh.cells
 dsimp only [Sw.rv,Sw.cv] at y0
 show Calls Tryz.prog 82 #[.agg #[.int .i64 n.kind,.int .i64 n.num,.string n.text,.string n.ref.sh,.int .i64 n.ref.c,.int .i64 n.ref.r,.bool n.ref.ac,.bool n.ref.ar,.string n.to.sh,.int .i64 n.to.c,.int .i64 n.to.r,.bool n.to.ac,.bool n.to.ar,.slice A m c],.agg #[.string x.s.sh,.slice x.ra x.s.rx.length x.rc,.int .i64 x.s.rn,.slice x.ca x.s.cx.length x.cc,.int .i64 x.s.cn,.bool x.s.gone]] w _
 by_cases hg:x.s.gone=true
 · have hv:(alongN n x.s).2=false:=by unfold alongN;rw [if_pos hg]
   unfold AlongR
   rw [hv]
   have HG:=Lib.hid hg
   clear hg hv
   go_enter Tryz.func82,Tryz.ntmps82
   go_upto_region 1 with (fail)
   rw [HZ.out,show z+1+1=z+2 from rfl]
   obtain ⟨y0,y1,y2,y3,y4,y5⟩:=y0
   have hg:=HG.out
   go_wp2_with (refine wpList_store_nod rfl (.tmp 4) (.tmp 9) rfl (z+2) Nd.zero Nd.zero (.slice none 0 0) (.slice none 0 0) rfl rfl HP.out.res rfl ?_;intro w7 k1 k2)
   exact bodyPost_ret (out_nod k1 _ _ false 4 5 res_along rfl rfl) rfl ⟨Nd.zero,_,rfl,fun e=>(by cases e),rfl,HP.out.resAt k2⟩
 have hgf:x.s.gone=false:=by cases h:x.s.gone with | true=>exact absurd h hg | false=>rfl
 by_cases hk:n.kind=6
 · have hv:alongN n x.s=(spanS n x.s,spanOk n x.s&&mayRf (spanS n x.s).to):=by unfold alongN;rw [if_neg hg,if_pos hk]
   unfold AlongR
   rw [hv]
   have HSP:=Lib.hid (show Calls Tryz.prog 117 #[.agg #[.int .i64 n.kind,.int .i64 n.num,.string n.text,.string n.ref.sh,.int .i64 n.ref.c,.int .i64 n.ref.r,.bool n.ref.ac,.bool n.ref.ar,.string n.to.sh,.int .i64 n.to.c,.int .i64 n.to.r,.bool n.to.ac,.bool n.to.ar,.slice A m c],.agg #[.string x.s.sh,.slice x.ra x.s.rx.length x.rc,.int .i64 x.s.rn,.slice x.ca x.s.cx.length x.cc,.int .i64 x.s.cn,.bool false]] w1 (fun e w'=>e = .returned (.tuple #[.agg (nodA (spanS n x.s) (.slice A m c)),.bool (spanOk n x.s&&mayRf (spanS n x.s).to)])∧Below w1.heap.size w1 w') from by
    have h:=spanAlong_any w1 n A m c x (HX.out.lift HP.out.below) HO.out HN.out
    unfold shfA at h;rw [hgf] at h;exact h)
   obtain ⟨N,hN⟩:∃ N,spanS n x.s=N:=⟨_,rfl⟩
   obtain ⟨b,hb⟩:∃ b,(spanOk n x.s&&mayRf (spanS n x.s).to)=b:=⟨_,rfl⟩
   rw [hb,hN] at HSP
   have HV:=Lib.hid (show (spanS n x.s,spanOk n x.s&&mayRf (spanS n x.s).to)=(N,b) from by rw [hb,hN])
   rw [HV.out]
   clear hv hN hb
   have HK6:=Lib.hid (show (n.kind == (6:Int))=true from beq_iff_eq.2 hk)
   have HGF:=Lib.hid hgf
   clear hk hg hgf
   go_enter Tryz.func82,Tryz.ntmps82
   go_upto_region 1 with (fail)
   rw [HZ.out,show z+1+1=z+2 from rfl]
   obtain ⟨x0,x1,x2,x3,x4,x5,x6,x7,x8,x9,x10,x11,x12,x13⟩:=x0
   obtain ⟨y0,y1,y2,y3,y4,y5⟩:=y0
   have hgf:=HGF.out
   have hk6:=HK6.out
   go_wp2_with (first
    | (go_at_call 117;((with_reducible refine HSP.out.mono ?_);rintro e w2 ⟨rfl,hq⟩;have HP2:=Lib.hid (HP.out.call hq);clear hq))
    | (refine wpList_store_nod rfl (.tmp 4) (.tmp 17) rfl (z+2) Nd.zero N (.slice none 0 0) (.slice A m c) rfl rfl HP2.out.res rfl ?_;intro w7 k1 k2))
   exact bodyPost_ret (out_nod k1 _ _ b 4 5 res_along rfl rfl) rfl ⟨N,_,rfl,fun _=>⟨rfl,rfl⟩,rfl,HP2.out.resAt k2⟩
 · have hv:alongN n x.s=(refN n x.s,mayRf (refN n x.s).ref):=by unfold alongN;rw [if_neg hg,if_neg hk]
   unfold AlongR
   rw [hv]
   have HI1:=Lib.hid (fun (wa:World) (ha:Below w.heap.size w wa)=>image_any wa x.ra x.s.rx.length x.rc x.s.rx x.s.rn n.ref.r (HX.out.lift ha).rows (by omega) h2 (by omega) (by omega))
   have HI2:=Lib.hid (fun (wa:World) (ha:Below w.heap.size w wa)=>image_any wa x.ca x.s.cx.length x.cc x.s.cx x.s.cn n.ref.c (HX.out.lift ha).cols (by omega) h5 (by omega) (by omega))
   obtain ⟨a1,ha1⟩:∃ a,imgM x.s.rx x.s.rn n.ref.r=a:=⟨_,rfl⟩
   obtain ⟨b1,hb1⟩:∃ a,imgM x.s.cx x.s.cn n.ref.c=a:=⟨_,rfl⟩
   rw [ha1] at HI1
   rw [hb1] at HI2
   obtain ⟨N,hN⟩:∃ N,n.goto4 a1 b1 n.to.r n.to.c=N:=⟨_,rfl⟩
   have hNs:N.ref.sh=n.ref.sh:=by rw [← hN];rfl
   have HNN:=Lib.hid hN
   have HV:=Lib.hid (show (refN n x.s,mayRf (refN n x.s).ref)=(N,mayRf N.ref) from by
    have:refN n x.s=N:=by rw [← hN];unfold refN;rw [ha1,hb1];rfl
    rw [this])
   rw [HV.out]
   have HMY:=Lib.hid (fun wq=>may_any N.ref.sh N.ref.c N.ref.r N.ref.ac N.ref.ar wq (by rw [hNs];exact HN.out.sh))
   clear hv hN ha1 hb1 hNs
   have HK6:=Lib.hid (show (n.kind == (6:Int))=false from beq_eq_false_iff_ne.2 hk)
   have HGF:=Lib.hid hgf
   clear hk hg hgf
   go_enter Tryz.func82,Tryz.ntmps82
   go_upto_region 1 with (fail)
   rw [HZ.out,show z+1+1=z+2 from rfl]
   obtain ⟨x0,x1,x2,x3,x4,x5,x6,x7,x8,x9,x10,x11,x12,x13⟩:=x0
   obtain ⟨y0,y1,y2,y3,y4,y5⟩:=y0
   have hgf:=HGF.out
   have hk6:=HK6.out
   go_upto_region 6 with (go_at_call 118;((with_reducible refine (HI1.out _ HP.out.below).mono ?_);rintro e w2 ⟨rfl,hq⟩;have HP2:=Lib.hid (HP.out.call hq);have f5:=HP2.out.nod.melt 5;clear x0 x1 x2 x3 x4 x5 x6 x7 x8 x9 x10 x11 x12 x13 y0 y1 y2 y3 y4 y5 hq;obtain ⟨x0,x1,x2,x3,x4,x5,x6,x7,x8,x9,x10,x11,x12,x13⟩:=HP2.out.nod.cells;obtain ⟨y0,y1,y2,y3,y4,y5⟩:=HP2.out.sh.cells))
   have HP3:=Lib.hid (HP2.out.put 5 (.int .i64 a1) (n':=n.goto4 a1 n.ref.c n.to.r n.to.c) rfl)
   clear x0 x1 x2 x3 x4 x5 x6 x7 x8 x9 x10 x11 x12 x13 y0 y1 y2 y3 y4 y5 f5
   obtain ⟨w3,hw3⟩:∃ w3,w2.setCell ⟨z,5,none⟩ (.int .i64 a1)=w3:=⟨_,rfl⟩
   rw [hw3] at HP3 ⊢
   clear hw3
   obtain ⟨x0,x1,x2,x3,x4,x5,x6,x7,x8,x9,x10,x11,x12,x13⟩:=HP3.out.nod.cells
   obtain ⟨y0,y1,y2,y3,y4,y5⟩:=HP3.out.sh.cells
   dsimp only [Sw.rv,Sw.cv] at y1 y3
   dsimp only [Nd.goto4,Rf.goto] at x0 x1 x2 x3 x4 x5 x6 x7 x8 x9 x10 x11 x12 x13
   go_upto_region 7 with (go_at_call 118;((with_reducible refine (HI2.out _ HP3.out.below).mono ?_);rintro e w4 ⟨rfl,hq⟩;have HP4:=Lib.hid (HP3.out.call hq);have f4:=HP4.out.nod.melt 4;clear x0 x1 x2 x3 x4 x5 x6 x7 x8 x9 x10 x11 x12 x13 y0 y1 y2 y3 y4 y5 hq;obtain ⟨x0,x1,x2,x3,x4,x5,x6,x7,x8,x9,x10,x11,x12,x13⟩:=HP4.out.nod.cells;obtain ⟨y0,y1,y2,y3,y4,y5⟩:=HP4.out.sh.cells;dsimp only [Nd.goto4,Rf.goto] at x0 x1 x2 x3 x4 x5 x6 x7 x8 x9 x10 x11 x12 x13))
   have HP5:=Lib.hid (HP4.out.put 4 (.int .i64 b1) (n':=n.goto4 a1 b1 n.to.r n.to.c) rfl)
   clear x0 x1 x2 x3 x4 x5 x6 x7 x8 x9 x10 x11 x12 x13 y0 y1 y2 y3 y4 y5 f4
   obtain ⟨w5,hw5⟩:∃ w5,w4.setCell ⟨z,4,none⟩ (.int .i64 b1)=w5:=⟨_,rfl⟩
   rw [hw5] at HP5 ⊢
   clear hw5
   rw [HNN.out] at HP5
   have HBD:=Lib.hid (Below.drew (Below.refl w5.heap.size w5))
   have HSK:=Lib.hid (fun (wq:World) (hq:Below w5.heap.size w5 wq)=>HP5.out.nod.over1 hq)
   have HSS:(fun wq=>NdAt wq z N (.slice A m c)) w5.drew:=HSK.out _ HBD.out
   refine wp_region_held_drew (S:=(fun wq=>NdAt wq z N (.slice A m c))) (by kernel_rfl) HSS (fun _ => ?_)
   show wpAnyH _ _ _ _ _ 6 #[false,false,false,false,false,false] _ _
   refine hT 0 HSS ?_ (hy:=by (intro wS hSw;have hz:=NdAt.cells hSw;go_simp;try (with_reducible rfl)))
   refine hT 1 HSS ?_
   refine hT 2 HSS ?_ (hy:=by (intro wS hSw;have hz:=NdAt.cells hSw;go_simp;try (with_reducible rfl)))
   refine hO 3 (fun K hK => ?_)
   go_simp
   go_at_call 119
   (with_reducible refine (HMY.out _).mono ?_)
   rintro e w6 ⟨rfl,h1⟩
   have H6:=Lib.hid (HBD.out.trans (h1.mono HBD.out.size))
   clear h1
   dsimp only
   refine hK.out _ _ (HSK.out _ H6.out) ?_
   clear hK K
   simp only [Act.put,sT,sZ,sS]
   have HS6:=HSK.out _ H6.out
   refine hO 4 (fun K hK => ?_)
   refine wp_store_nod (.tmp 4) (.tmp 35) rfl (z+2) Nd.zero N (.slice none 0 0) (.slice A m c) rfl rfl (HP5.out.res.over1 H6.out) rfl ?_
   intro w7 k1 k2
   have hlt:=HP5.out.size
   have hs6:=H6.out.size
   have HS7:(fun wq=>NdAt wq z N (.slice A m c)) w7:=(show NdAt w7 z N (.slice A m c) from by unfold NdAt;rw [k2.block z (by omega) (by intro e;injection e with e;omega)];exact HS6)
   refine hK.out _ _ HS7 ?_
   clear hK K
   simp only [Act.put]
   refine hT 5 HS7 ?_
   refine wpAnyH_done (by kernel_rfl) ?_ _
   go_wp2_with fail
   exact bodyPost_ret (out_nod k1 _ _ (mayRf N.ref) 4 5 res_along rfl rfl) rfl ⟨N,_,rfl,fun _=>⟨rfl,rfl⟩,rfl,(HP5.out.call H6.out).resAt k2⟩
theorem hP {P:Program} {md:Region.Mode} {ops:Array Oper} {Q:Exit→Act→World→Prop} {S:World→Prop} (i j:Nat) {oi oj:Oper} {d e:Option Tmp} {fuel:Nat} {listed l1 l2:Array Bool} {a:Act} {w:World}
 (h:∀ K:Act→World→Prop,Shut (∀ v w,S w→wpAnyH P md ops Q S fuel l1 (a.put d v) w→K (a.put d v) w)→Oper.wp P oi a w K Q) (h':∀ K:Act→World→Prop,Shut (∀ v w,S w→wpAnyH P md ops Q S fuel l2 (a.put e v) w→K (a.put e v) w)→Oper.wp P oj a w K Q)
 (hi:ops[i]? = some oi:=by (first | (simp only [gA,gS,gZ];done) | (simp only [gA,gS,gZ];rfl))) (hj:ops[j]? = some oj:=by (first | (simp only [gA,gS,gZ];done) | (simp only [gA,gS,gZ];rfl)))
 (hd:oi.dst=d:=by (first | (dsimp only;done) | (dsimp only;rfl) | rfl)) (he:oj.dst=e:=by (first | (dsimp only;done) | (dsimp only;rfl) | rfl)) (hr:Region.ready md ops listed=[i,j]:=by kernel_rfl)
 (hl:listed.setIfInBounds i true=l1:=by (simp only [sT,sZ,sS];rfl)) (hl':listed.setIfInBounds j true=l2:=by (simp only [sT,sZ,sS];rfl)) (hw:Region.wanted oi (yielded ops a.tmps)=true:=by rfl) (hw':Region.wanted oj (yielded ops a.tmps)=true:=by rfl):wpAnyH P md ops Q S (fuel+1) listed a w:=by
 subst hd;subst he;subst hl;subst hl'
 refine wpAnyH_ready hr (by simp) (AllReadyH.cons hi (fun K hK => ?_) (AllReadyH.cons hj (fun K hK => ?_) AllReadyH.nil))
 · rw [if_pos hw]
   exact h K (fun v w hS hW=>hK _ _ hS (fun _=>hW))
 · rw [if_pos hw']
   exact h' K (fun v w hS hW=>hK _ _ hS (fun _=>hW))
end Go.Proofs.YtdnooocmlhcpkaaGreatDoor
