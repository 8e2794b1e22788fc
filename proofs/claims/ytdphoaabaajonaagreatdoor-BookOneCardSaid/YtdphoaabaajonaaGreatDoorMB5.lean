/-
 Texts of layers, put together.
-/
import Derived.Test.YtdphoaabaajonaaGreatDoorMB4
namespace Go.Proofs.YtdphoaabaajonaaGreatDoor
open Go.RowKit
def Out (res:Res) (w:World) (b:Nat) (tv:Value) (ts:List Tk) (deep:Nat) (vs:List Nv) (e:Ending) (w':World):Prop :=
 Fr w w' b∧((∃ c,res = .error c∧(c=5∨c=6)∧e = .returned (.int .i64 c)) ∨
  (∃ ms a r,res = .ok (ms,a,r)∧e = .returned (.int .i64 0)∧∃ p' nv' us,ts.drop p'=r∧us.map Nv.n=ms∧(∀ u∈us,∀ g,u.kv.ownBlock=some g→w.heap.size≤g)∧Ps w' b tv ts p' deep nv' (vs++us)))
def Nv.leaf (n:Nd):Nv:=⟨n,none⟩
theorem leaf_own (w:World) (lo:Nat) (n:Nd) (h:n.kids=[]):Own (encInt .i64) 3 w lo (Nv.leaf n).kv (Nv.leaf n).n.kids:=by
 show Own (encInt .i64) 3 w lo (.slice none 0 0) n.kids
 rw [h];exact Own.nil _ _ _ _
set_option maxRecDepth 100000 in
set_option maxHeartbeats 1000000 in
theorem leaf_any {w:World} {b:Nat} {tv:Value} {ts:List Tk} {p deep:Nat} {nv:Value} {vs:List Nv} (h:Ps w b tv ts p deep nv vs) (hnx:p+1<ts.length) (n:Nd) (hn:n.kids=[]) :
 Calls Tryz.prog 137 #[.pointer (some ⟨b,0,none⟩),.agg #[.int .i64 n.kind,.int .i64 n.num,.string n.text,.string n.ref.sh,.int .i64 n.ref.c,.int .i64 n.ref.r,.bool n.ref.ac,.bool n.ref.ar,.string n.to.sh,.int .i64 n.to.c,.int .i64 n.to.r,.bool n.to.ac,.bool n.to.ar,.slice none 0 0]] w fun e w'=>Fr w w' b∧e = .returned (.int .i64 0)∧∃ nv',Ps w' b tv ts (p+1) deep nv' (vs++[Nv.leaf n]):=by
 have hal:Below w.heap.size w (w.alloc (.cells #[.int .i64 n.kind,.int .i64 n.num,.string n.text,.string n.ref.sh,.int .i64 n.ref.c,.int .i64 n.ref.r,.bool n.ref.ac,.bool n.ref.ar,.string n.to.sh,.int .i64 n.to.c,.int .i64 n.to.r,.bool n.to.ac,.bool n.to.ar,.slice none 0 0] 140)):=(Below.refl _ _).alloc (Nat.le_refl _) _
 have HP1:=Lib.hid (h.below hal)
 have hx:NdAt (w.alloc (.cells #[.int .i64 n.kind,.int .i64 n.num,.string n.text,.string n.ref.sh,.int .i64 n.ref.c,.int .i64 n.ref.r,.bool n.ref.ac,.bool n.ref.ar,.string n.to.sh,.int .i64 n.to.c,.int .i64 n.to.r,.bool n.to.ac,.bool n.to.ar,.slice none 0 0] 140)) w.heap.size n (.slice none 0 0):=NdAt.new w n _
 have h2:=h.few
 have h4:=h.cnt
 have hbl:=h.blt
 have hsz:(w.alloc (.cells #[.int .i64 n.kind,.int .i64 n.num,.string n.text,.string n.ref.sh,.int .i64 n.ref.c,.int .i64 n.ref.r,.bool n.ref.ac,.bool n.ref.ar,.string n.to.sh,.int .i64 n.to.c,.int .i64 n.to.r,.bool n.to.ac,.bool n.to.ar,.slice none 0 0] 140)).heap.size=w.heap.size+1:=by simp
 have HAL:=Lib.hid hal
 clear h hal
 go_enter Tryz.func137,Tryz.ntmps137
 go_upto_region 1 with (fail)
 generalize w.alloc (.cells #[.int .i64 n.kind,.int .i64 n.num,.string n.text,.string n.ref.sh,.int .i64 n.ref.c,.int .i64 n.ref.r,.bool n.ref.ac,.bool n.ref.ar,.string n.to.sh,.int .i64 n.to.c,.int .i64 n.to.r,.bool n.to.ac,.bool n.to.ar,.slice none 0 0] 140)=w1 at HP1 HAL hx hsz ⊢
 obtain ⟨c0,c1,c2,c3⟩:=HP1.out.facts
 have f1:=HP1.out.frozen 1
 clear c0 c2 c3
 go_upto_region 2 with (fail)
 have HP2:=Lib.hid (HP1.out.next hnx)
 have HX2:=Lib.hid (show NdAt (w1.setCell ⟨b,1,none⟩ (.int .i64 ((p:Int)+1))) w.heap.size n (.slice none 0 0) from by unfold NdAt;rw [Below.heap_setCell _ _ _ _ (by show w.heap.size≠b;omega)];exact hx)
 have HF2:=Lib.hid ((Fr.of b HAL.out).setCell 1 (.int .i64 ((p:Int)+1)))
 clear c1 f1 hx HP1 HAL hsz
 generalize w1.setCell ⟨b,1,none⟩ (.int .i64 ((p:Int)+1))=w2 at HP2 HX2 HF2 ⊢
 obtain ⟨x0,x1,x2,x3,x4,x5,x6,x7,x8,x9,x10,x11,x12,x13⟩:=HX2.out.cells
 have HA:=Lib.hid (add_any HP2.out (Nv.leaf n) (leaf_own _ _ n hn) (by omega) (.slice none 0 0) rfl n rfl)
 go_wp2_with (go_at_call 135;((with_reducible refine HA.out.mono ?_);rintro e w3 ⟨h1,rfl,nv',h3⟩;have HF3:=Lib.hid (HF2.out.trans h1);have HP3:=Lib.hid h3;clear h1 h3))
 go_ret
 exact ⟨HF3.out,rfl,_,HP3.out⟩
theorem empty_list:(⟨#[]⟩:ByteArray).toList=[]:=by rw [list_bytes]
set_option maxRecDepth 100000 in
set_option maxHeartbeats 800000 in
theorem isRange_any (s1 s2:ByteArray) (c1 r1 c2 r2:Int) (a1 b1 a2 b2:Bool) (w:World) :
 Calls Tryz.prog 177 #[.agg #[.string s1,.int .i64 c1,.int .i64 r1,.bool a1,.bool b1],.agg #[.string s2,.int .i64 c2,.int .i64 r2,.bool a2,.bool b2]] w fun e w'=>e = .returned (.bool (spanB ⟨s1,c1,r1,a1,b1⟩ ⟨s2,c2,r2,a2,b2⟩))∧Below w.heap.size w w':=by
 have hsz:(w.alloc (.cells #[.string s1,.int .i64 c1,.int .i64 r1,.bool a1,.bool b1] 99)).heap.size=w.heap.size+1:=by simp
 have h1:=RefAt.new w s1 c1 r1 a1 b1
 have h2:=RefAt.new (w.alloc (.cells #[.string s1,.int .i64 c1,.int .i64 r1,.bool a1,.bool b1] 99)) s2 c2 r2 a2 b2
 have h3:=h1.below ((Below.refl _ _).alloc (Nat.le_refl _) (.cells #[.string s2,.int .i64 c2,.int .i64 r2,.bool a2,.bool b2] 99)) h1.lt
 rw [hsz] at h2
 have HB:=Lib.hid (((Below.refl w.heap.size w).alloc (Nat.le_refl _) (.cells #[.string s1,.int .i64 c1,.int .i64 r1,.bool a1,.bool b1] 99)).alloc (by simp) (.cells #[.string s2,.int .i64 c2,.int .i64 r2,.bool a2,.bool b2] 99))
 have HS:=Lib.hid (show spanB ⟨s1,c1,r1,a1,b1⟩ ⟨s2,c2,r2,a2,b2⟩=(decide (s2=⟨#[]⟩)&&(decide (c1≤c2)&&decide (r1≤r2))) from rfl)
 clear h1
 go_enter Tryz.func177,Tryz.ntmps177
 go_upto_region 1 with (fail)
 generalize (w.alloc (.cells #[.string s1,.int .i64 c1,.int .i64 r1,.bool a1,.bool b1] 99)).alloc (.cells #[.string s2,.int .i64 c2,.int .i64 r2,.bool a2,.bool b2] 99)=w1 at h2 h3 HB ⊢
 obtain ⟨x0,x1,x2,x3,x4⟩:=h2.facts
 obtain ⟨y0,y1,y2,y3,y4⟩:=h3.facts
 clear h2 h3
 by_cases hs:s2=⟨#[]⟩
 · subst hs
   have e0:=empty_list
   by_cases hc:c1≤c2
   · by_cases hr:r1≤r2
     · have HT:=Lib.hid (show spanB ⟨s1,c1,r1,a1,b1⟩ ⟨⟨#[]⟩,c2,r2,a2,b2⟩=true by rw [HS.out,decide_eq_true hc,decide_eq_true hr];rfl)
       go_wp2_with fail
       go_ret
       exact ⟨by rw [HT.out];rfl,HB.out⟩
     · have HT:=Lib.hid (show spanB ⟨s1,c1,r1,a1,b1⟩ ⟨⟨#[]⟩,c2,r2,a2,b2⟩=false by rw [HS.out,decide_eq_true hc,decide_eq_false hr];rfl)
       go_wp2_with fail
       go_ret
       exact ⟨by rw [HT.out];rfl,HB.out⟩
   · have HT:=Lib.hid (show spanB ⟨s1,c1,r1,a1,b1⟩ ⟨⟨#[]⟩,c2,r2,a2,b2⟩=false by rw [HS.out,decide_eq_false hc];rfl)
     go_wp2_with fail
     go_ret
     exact ⟨by rw [HT.out];rfl,HB.out⟩
 · have HT:=Lib.hid (show spanB ⟨s1,c1,r1,a1,b1⟩ ⟨s2,c2,r2,a2,b2⟩=false by rw [HS.out,decide_eq_false hs];rfl)
   have e0:¬ s2.toList=[]:=by rw [← empty_list];exact text_ne _ _ hs
   have e1:s2.toList.isEmpty=false:=by simpa using e0
   clear hs
   go_wp2_with fail
   go_ret
   exact ⟨by rw [HT.out];rfl,HB.out⟩
theorem Out.leaf {res:Res} {w w':World} {b:Nat} {tv:Value} {ts:List Tk} {deep p':Nat} {vs:List Nv} {nv':Value} {n:Nd} {a:Nat} {r:List Tk} (hr:res = .ok ([n],a,r)) (hf:Fr w w' b) (hp:ts.drop p'=r) (h:Ps w' b tv ts p' deep nv' (vs++[Nv.leaf n])):Out res w b tv ts deep vs (.returned (.int .i64 0)) w' :=
 ⟨hf,.inr ⟨[n],a,r,hr,rfl,p',nv',[Nv.leaf n],hp,rfl,(by intro u hu g hg;rw [List.mem_singleton.1 hu] at hg;cases hg),h⟩⟩
theorem Out.err {res:Res} {w w':World} {b:Nat} {tv:Value} {ts:List Tk} {deep:Nat} {vs:List Nv} {c:Int} (hr:res = .error c) (hc:c=5∨c=6) (hf:Fr w w' b):Out res w b tv ts deep vs (.returned (.int .i64 c)) w':=⟨hf,.inl ⟨c,hr,hc,rfl⟩⟩
theorem RefAt.set {w:World} {b:Nat} {s:ByteArray} {c r:Int} {ac ar:Bool} (h:RefAt w b s c r ac ar) {g:Nat} (hg:b≠g) (o:Nat) (v:Value):RefAt (w.setCell ⟨g,o,none⟩ v) b s c r ac ar:=by
 unfold RefAt;rw [Below.heap_setCell _ _ _ _ (by exact hg)];exact h
theorem RefAt.fr {w w':World} {b g:Nat} {s:ByteArray} {c r:Int} {ac ar:Bool} (h:RefAt w g s c r ac ar) (hf:Fr w w' b) (hg:g≠b):RefAt w' g s c r ac ar:=by
 unfold RefAt;rw [hf.block g h.lt hg (.inr (by rintro ⟨cur,fr,e⟩;unfold RefAt at h;rw [h] at e;injection e with e;injection e with _ e;exact absurd e (by decide)))];exact h
set_option maxRecDepth 100000 in
set_option maxHeartbeats 2000000 in
theorem place_any {w:World} {b:Nat} {tv:Value} {ts:List Tk} {p deep:Nat} {nv:Value} {vs:List Nv} (h:Ps w b tv ts p deep nv vs) (t:Tk) (hnx:p+1<ts.length) (base:Nat) :
 Calls Tryz.prog 138 #[.pointer (some ⟨b,0,none⟩),.agg #[.string t.sh,.int .i64 t.c,.int .i64 t.r,.bool t.ac,.bool t.ar]] w (Out (refP base t (ts.drop (p+1))) w b tv ts deep vs):=by
 have hal:Below w.heap.size w (w.alloc (.cells #[.string t.sh,.int .i64 t.c,.int .i64 t.r,.bool t.ac,.bool t.ar] 99)):=(Below.refl _ _).alloc (Nat.le_refl _) _
 have HP1:=Lib.hid (h.below hal)
 have hx:=RefAt.new w t.sh t.c t.r t.ac t.ar
 have h2:=h.few
 have hct:=h.cnt
 have hbl:=h.blt
 have HAL:=Lib.hid hal
 clear h hal
 go_enter Tryz.func138,Tryz.ntmps138
 go_upto_region 1 with (fail)
 generalize w.alloc (.cells #[.string t.sh,.int .i64 t.c,.int .i64 t.r,.bool t.ac,.bool t.ar] 99)=w1 at HP1 HAL hx ⊢
 obtain ⟨c0,c1,c2,c3⟩:=HP1.out.facts
 have f1:=HP1.out.frozen 1
 clear c0 c2 c3
 go_upto_region 2 with (fail)
 have HP2:=Lib.hid (HP1.out.next hnx)
 have HX2:=Lib.hid (hx.set (show w.heap.size≠b by omega) 1 (.int .i64 ((p:Int)+1)))
 have HF2:=Lib.hid ((Fr.of b HAL.out).setCell 1 (.int .i64 ((p:Int)+1)))
 clear c1 f1 hx HP1 HAL
 generalize w1.setCell ⟨b,1,none⟩ (.int .i64 ((p:Int)+1))=w2 at HP2 HX2 HF2 ⊢
 have HT:=Lib.hid (ptake_any HP2.out ⟨#[58]⟩)
 have hw0:w.heap.size≠b:=by omega
 cases hq:signIs ⟨#[58]⟩ (ts.drop (p+1))
 · rw [hq,if_neg (by decide)] at HT
   have HR:=Lib.hid (show refP base t (ts.drop (p+1)) = .ok ([{ Nd.zero with kind:=5,ref:=t.rf }],base,ts.drop (p+1)) by unfold refP;rw [hq,if_neg (by decide)])
   clear hq
   go_upto_region 3 with (go_at_call 176;((with_reducible refine HT.out.mono ?_);rintro e w3 ⟨h1,rfl,h3⟩;have HF3:=Lib.hid (HF2.out.trans h1);have HX3:=Lib.hid (HX2.out.fr h1 hw0);have HP3:=Lib.hid h3;clear h1 h3))
   obtain ⟨x0,x1,x2,x3,x4⟩:=HX3.out.facts
   have HA:=Lib.hid (show Calls Tryz.prog 135 #[.pointer (some ⟨b,0,none⟩),.agg #[.int .i64 5,.int .i64 0,.string ⟨#[]⟩,.string t.sh,.int .i64 t.c,.int .i64 t.r,.bool t.ac,.bool t.ar,.string ⟨#[]⟩,.int .i64 0,.int .i64 0,.bool false,.bool false,.slice none 0 0]] w3 _ from add_any HP3.out (Nv.leaf { Nd.zero with kind:=5,ref:=t.rf }) (leaf_own _ _ _ rfl) (by omega) (.slice none 0 0) rfl { Nd.zero with kind:=5,ref:=t.rf } rfl)
   go_wp2_with (go_at_call 135;((with_reducible refine HA.out.mono ?_);rintro e w4 ⟨h1,rfl,nv',h3⟩;have HF4:=Lib.hid (HF3.out.trans h1);have HP4:=Lib.hid h3;clear h1 h3))
   go_ret
   exact Out.leaf HR.out HF4.out rfl HP4.out
 · have hnx2:=sign_next HP2.out hq
   rw [hq,if_pos rfl] at HT
   obtain ⟨u,hu⟩:∃ u,ts[p+2]? = some u:=⟨_,List.getElem?_eq_getElem hnx2⟩
   have hd:(ts.drop (p+1)).tail=u :: ts.drop (p+3):=by
    rw [List.tail_drop,List.drop_eq_getElem_cons hnx2]
    rw [List.getElem?_eq_getElem hnx2] at hu;rw [Option.some.inj hu]
   have hR:refP base t (ts.drop (p+1))=if u.kind=4∧spanB t.rf u.rf=true then .ok ([(⟨6,0,⟨#[]⟩,t.rf,u.rf,[]⟩:Nd)],base,ts.drop (p+3)) else .error 5:=by
    unfold refP;rw [hq,if_pos rfl,hd] <;> rfl
   clear hq hd
   go_upto_region 6 with (first
    | (go_at_call 176;((with_reducible refine HT.out.mono ?_);rintro e w3 ⟨h1,rfl,h3⟩;have HF3:=Lib.hid (HF2.out.trans h1);have HX3:=Lib.hid (HX2.out.fr h1 hw0);have HP3:=Lib.hid h3;have HTK:=Lib.hid (ptoken_any h3 u hu);clear h1 h3))
    | (go_at_call 75;((with_reducible refine HTK.out.mono ?_);rintro e w4 ⟨rfl,h1⟩;have HF4:=Lib.hid (HF3.out.below h1);have HX4:=Lib.hid (HX3.out.below h1 HX3.out.lt);have HP4:=Lib.hid (HP3.out.below h1);clear h1)))
   have hB:Below w4.heap.size w4 (w4.alloc (.cells #[.int .i64 u.kind,.string u.text,.int .i64 u.num,.string u.sh,.int .i64 u.c,.int .i64 u.r,.bool u.ac,.bool u.ar,.int .i64 u.pos] 101)):=(Below.refl _ _).alloc (Nat.le_refl _) _
   have HN5:TkAt (w4.alloc (.cells #[.int .i64 u.kind,.string u.text,.int .i64 u.num,.string u.sh,.int .i64 u.c,.int .i64 u.r,.bool u.ac,.bool u.ar,.int .i64 u.pos] 101)) w4.heap.size u:=TkAt.new w4 u
   have HF5:=Lib.hid (HF4.out.below hB)
   have HX5:=Lib.hid (HX4.out.below hB HX4.out.lt)
   have HP5:=Lib.hid (HP4.out.below hB)
   clear hB HF3 HX3 HP3 HTK HF4 HX4 HP4 HT HX2 HP2 HF2
   generalize hb4:w4.heap.size=b4 at HN5 ⊢
   generalize w4.alloc (.cells #[.int .i64 u.kind,.string u.text,.int .i64 u.num,.string u.sh,.int .i64 u.c,.int .i64 u.r,.bool u.ac,.bool u.ar,.int .i64 u.pos] 101)=w5 at HN5 HF5 HX5 HP5 ⊢
   clear hb4
   obtain ⟨x0,x1,x2,x3,x4,x5,x6,x7,x8⟩:=HN5.cells
   obtain ⟨y0,y1,y2,y3,y4⟩:=HX5.out.facts
   by_cases h4:u.kind=4
   · have e4:(u.kind != 4)=false:=by rw [h4];rfl
     have e5:(u.kind == 4)=true:=beq_iff_eq.2 h4
     have HI:=Lib.hid (isRange_any t.sh u.sh t.c t.r u.c u.r t.ac t.ar u.ac u.ar w5)
     cases hs:spanB t.rf u.rf
     · have HR:=Lib.hid (show refP base t (ts.drop (p+1)) = .error 5 by rw [hR,hs,if_neg (by simp)])
       have HS:=Lib.hid (show spanB ⟨t.sh,t.c,t.r,t.ac,t.ar⟩ ⟨u.sh,u.c,u.r,u.ac,u.ar⟩=false from hs)
       rw [HS.out] at HI
       clear hR hs h4
       go_wp2_with (go_at_call 177;((with_reducible refine HI.out.mono ?_);rintro e w6 ⟨rfl,h1⟩;have HF6:=Lib.hid (HF5.out.below h1);clear h1))
       go_ret
       exact Out.err HR.out (.inl rfl) HF6.out
     · have HR:=Lib.hid (show refP base t (ts.drop (p+1)) = .ok ([(⟨6,0,⟨#[]⟩,t.rf,u.rf,[]⟩:Nd)],base,ts.drop (p+3)) by rw [hR,hs,if_pos ⟨h4,rfl⟩])
       have HS:=Lib.hid (show spanB ⟨t.sh,t.c,t.r,t.ac,t.ar⟩ ⟨u.sh,u.c,u.r,u.ac,u.ar⟩=true from hs)
       rw [HS.out] at HI
       have HNX:=Lib.hid (HP5.out.fit.next hu (by omega))
       have HN5:=Lib.hid HN5
       clear hR hs h4 x0 x1 x2 x3 x4 x5 x6 x7 x8 y0 y1 y2 y3 y4
       obtain ⟨x0,x1,x2,x3,x4,x5,x6,x7,x8⟩:=HN5.out.cells
       obtain ⟨y0,y1,y2,y3,y4⟩:=HX5.out.facts
       go_upto_region 8 with (go_at_call 177;((with_reducible refine HI.out.mono ?_);rintro e w6 ⟨rfl,h1⟩;have HF6:=Lib.hid (HF5.out.below h1);have HP6:=Lib.hid (HP5.out.below h1);have HX6:=Lib.hid (HX5.out.below h1 HX5.out.lt);have HN6:=Lib.hid (HN5.out.below h1 HN5.out.lt);clear h1))
       clear x0 x1 x2 x3 x4 x5 x6 x7 x8 y0 y1 y2 y3 y4
       obtain ⟨x0,x1,x2,x3,x4,x5,x6,x7,x8⟩:=HN6.out.cells
       obtain ⟨y0,y1,y2,y3,y4⟩:=HX6.out.facts
       have HA:=Lib.hid (show Calls Tryz.prog 137 #[.pointer (some ⟨b,0,none⟩),.agg #[.int .i64 6,.int .i64 0,.string ⟨#[]⟩,.string t.sh,.int .i64 t.c,.int .i64 t.r,.bool t.ac,.bool t.ar,.string u.sh,.int .i64 u.c,.int .i64 u.r,.bool u.ac,.bool u.ar,.slice none 0 0]] w6 _ from leaf_any HP6.out HNX.out (⟨6,0,⟨#[]⟩,t.rf,u.rf,[]⟩:Nd) rfl)
       go_wp2_with (go_at_call 137;((with_reducible refine HA.out.mono ?_);rintro e w7 ⟨h1,rfl,nv',h3⟩;have HF7:=Lib.hid (HF6.out.trans h1);have HP7:=Lib.hid h3;clear h1 h3))
       go_ret
       exact Out.leaf HR.out HF7.out rfl HP7.out
   · have e4:(u.kind != 4)=true:=by rw [bne_iff_ne];exact h4
     have e5:(u.kind == 4)=false:=beq_eq_false_iff_ne.2 h4
     have HR:=Lib.hid (show refP base t (ts.drop (p+1)) = .error 5 by rw [hR,if_neg (fun h=>h4 h.1)])
     clear hR h4
     go_wp2_with fail
     go_ret
     exact Out.err HR.out (.inl rfl) HF5.out
theorem Out.ret {res:Res} {w w':World} {b:Nat} {tv:Value} {ts:List Tk} {deep:Nat} {vs:List Nv} {e:Ending} (h:Out res w b tv ts deep vs e w'):∃ c,e = .returned (.int .i64 c):=by
 rcases h.2 with ⟨c,_,_,h⟩ | ⟨_,_,_,_,h,_⟩
 · exact ⟨c,h⟩
 · exact ⟨0,h⟩
theorem Out.bad {res:Res} {w w':World} {b:Nat} {tv:Value} {ts:List Tk} {deep:Nat} {vs:List Nv} {e:Ending} {c:Int} (h:Out res w b tv ts deep vs e w') (hr:res = .error c):Fr w w' b∧(c=5∨c=6)∧e = .returned (.int .i64 c):=by
 rcases h.2 with ⟨c',h1,h2,h3⟩ | ⟨ms,a,r,h1,_⟩
 · rw [hr] at h1;injection h1 with h1;subst h1;exact ⟨h.1,h2,h3⟩
 · rw [hr] at h1;cases h1
theorem Out.good {res:Res} {w w':World} {b:Nat} {tv:Value} {ts:List Tk} {deep:Nat} {vs:List Nv} {e:Ending} {ms:List Nd} {a:Nat} {r:List Tk} (h:Out res w b tv ts deep vs e w') (hr:res = .ok (ms,a,r)) :
 Fr w w' b∧e = .returned (.int .i64 0)∧∃ p' nv' us,ts.drop p'=r∧us.map Nv.n=ms∧(∀ u∈us,∀ g,u.kv.ownBlock=some g→w.heap.size≤g)∧Ps w' b tv ts p' deep nv' (vs++us):=by
 rcases h.2 with ⟨c',h1,h2,h3⟩ | ⟨ms',a',r',h1,h2,h3⟩
 · rw [hr] at h1;cases h1
 · rw [hr] at h1;injection h1 with h1;injection h1 with e1 e2;injection e2 with e2 e3;subst e1;subst e3;exact ⟨h.1,h2,h3⟩
theorem root_is {w:World} {b:Nat} {tv:Value} {ts:List Tk} {p deep:Nat} {nv:Value} {vs:List Nv} (h:Ps w b tv ts p deep nv vs) (a:Nat) (ha:a+1=vs.length) :
 Calls Tryz.prog 136 #[.pointer (some ⟨b,0,none⟩)] w fun e w'=>e = .returned (.int .i64 (a:Int))∧w=w':=by
 have:=root_any h (by omega)
 rw [show (vs.length:Int) - 1=(a:Int) by omega] at this;exact this
theorem own_lit2 (w:World) (base:Nat) (x y:Int) (hb:base≤w.heap.size):Own (encInt .i64) 3 (w.alloc (.cells #[.int .i64 x,.int .i64 y] 3)) base (.slice (some ⟨w.heap.size,0,none⟩) 2 2) [x,y] :=
 ⟨rfl,.inr ⟨w.heap.size,2,_,rfl,hb,(Go.MapKept.heap_alloc w _).1,Nat.le_refl _,by decide,rfl,rfl⟩⟩
theorem own_lit1 (w:World) (base:Nat) (x:Int) (hb:base≤w.heap.size):Own (encInt .i64) 3 (w.alloc (.cells #[.int .i64 x] 3)) base (.slice (some ⟨w.heap.size,0,none⟩) 1 1) [x] :=
 ⟨rfl,.inr ⟨w.heap.size,1,_,rfl,hb,(Go.MapKept.heap_alloc w _).1,Nat.le_refl _,by decide,rfl,rfl⟩⟩
def EX (f:Nat):Prop:=∀ (n deep:Nat) (res:Res) (w:World) (b:Nat) (tv:Value) (ts:List Tk) (p:Nat) (nv:Value) (vs:List Nv),n≤4→Ps w b tv ts p deep nv vs→exprP f n deep vs.length (ts.drop p)=some res →
 Calls Tryz.prog 74 #[.pointer (some ⟨b,0,none⟩),.int .i64 (n:Int)] w (Out res w b tv ts deep vs)
theorem count_at {f n deep base:Nat} {ts:List Tk} {p p':Nat} {ns:List Nd} {a:Nat} {r:List Tk} (h:exprP f n deep base (ts.drop p)=some (.ok (ns,a,r))) (hr:ts.drop p'=r) (hl:p'<ts.length):ns.length+p≤p'∧a+1=base+ns.length∧1≤ns.length:=by
 have h1:=(count_all f).1 _ _ _ _ _ _ _ h
 have h2:=(told_all f).1 _ _ _ _ _ _ _ h
 subst hr
 rw [List.length_drop,List.length_drop] at h1
 exact ⟨by omega,h2.2.1,h2.2.2⟩
set_option maxRecDepth 100000 in
set_option maxHeartbeats 4000000 in
theorem row_any (f:Nat) (IH:∀ g,g≤f→EX g) (n:Nat) (hn:n≤3) {w:World} {b:Nat} {tv:Value} {ts:List Tk} {p deep:Nat} {nv:Value} {vs:List Nv} (h:Ps w b tv ts p deep nv vs) (res:Res)
 (hres:bindR (exprP f (n+1) deep vs.length (ts.drop p)) (fun ns a r=>rowP f n deep vs.length ns a r)=some res) :
 Calls Tryz.prog 132 #[.pointer (some ⟨b,0,none⟩),.int .i64 (n:Int)] w (Out res w b tv ts deep vs):=by
 have hw1 : -9223372036854775808≤(n:Int)+1:=by omega
 have hw2:(n:Int)+1≤9223372036854775807:=by omega
 have hn4:n+1≤4:=by omega
 rcases bindR_some hres with ⟨c,h1,rfl⟩ | ⟨ns,a,r,h1,h2⟩
 · have HL:=Lib.hid (show Calls Tryz.prog 74 #[.pointer (some ⟨b,0,none⟩),.int .i64 ((n:Int)+1)] w (Out (.error c) w b tv ts deep vs) from IH f (Nat.le_refl _) (n+1) deep _ w b tv ts p nv vs hn4 h h1)
   clear hres h1 IH h
   go_enter Tryz.func132,Tryz.ntmps132
   go_wp2_with (go_at_call 74;((with_reducible refine HL.out.mono ?_);intro e w2 ho;obtain ⟨hf,hc,rfl⟩:=ho.bad rfl;have HF:=Lib.hid hf;have HC:=Lib.hid hc;have hc0:(c != 0)=true:=(by rw [bne_iff_ne];rcases hc with h | h <;> omega);clear hf hc ho))
   go_ret
   exact Out.err rfl HC.out HF.out
 · have HL := Lib.hid (show Calls Tryz.prog 74 #[.pointer (some ⟨b,0,none⟩),.int .i64 ((n:Int)+1)] w (Out (.ok (ns,a,r)) w b tv ts deep vs) from IH f (Nat.le_refl _) (n+1) deep _ w b tv ts p nv vs hn4 h h1)
   have HIH:=Lib.hid IH
   have H1:=Lib.hid h1
   have H2:=Lib.hid h2
   have hcn:=h.cnt
   have HP:=Lib.hid h
   clear hres h1 h2 IH h
   go_enter Tryz.func132,Tryz.ntmps132
   go_upto_region 4 with (go_at_call 74;((with_reducible refine HL.out.mono ?_);intro e w2 ho;obtain ⟨hf,rfl,p1,nv1,us1,hp1,hu1,hk1,hps1⟩:=ho.good rfl;have HF1:=Lib.hid hf;have HP1:=Lib.hid hps1;have HD1:=Lib.hid hp1;have HU1:=Lib.hid hu1;have HK1:=Lib.hid hk1;clear hf ho hp1 hu1 hk1 hps1))
   go_loopw [] (fun wr=>∃ (g:Nat) (ns':List Nd) (a' p':Nat) (nv':Value) (us:List Nv),g≤f∧a'+1=vs.length+ns'.length∧us.length=ns'.length∧Hid (rowP g n deep vs.length ns' a' (ts.drop p')=some res)∧Hid (us.map Nv.n=ns')∧Hid (∀ u∈us,∀ j,u.kv.ownBlock=some j→w.heap.size≤j)∧Hid (Ps wr b tv ts p' deep nv' (vs++us))∧Hid (Fr w wr b))
    (fun wr=>psm b ts.length wr)
   case atStart =>
    have h3:=count_at H1.out HD1.out HP1.out.lt
    refine ⟨f,ns,a,p1,nv1,us1,Nat.le_refl _,h3.2.1,by rw [← HU1.out,List.length_map], ?_,HU1,HK1,HP1,HF1⟩
    rw [HD1.out];exact H2
   case round =>
    clear HL H1 H2 HF1 HP1 HD1 HU1 HK1
    obtain ⟨g,ns',a',p',nv',us,hg,ha,hul,HR,HU,HK,HPr,HF⟩:=hrel
    have hlt:=HPr.out.lt
    have hfew:=HPr.out.few
    have hcnt:=HPr.out.cnt
    rw [List.length_append] at hcnt
    have HM:=Lib.hid (HPr.out.psm ts.length)
    have HO:=Lib.hid (operator_any HPr.out n hn)
    match g,hg,HR with
    | 0,_,HR=>have:=HR.out;unfold rowP at this;cases this
    | g+1,hg,HR =>
    have hr:=HR.out
    rw [rowP_succ] at hr
    by_cases h0:opK n (ts.drop p')=0
    · rw [if_pos h0] at hr
      injection hr with hr
      have HRS:=Lib.hid hr.symm
      rw [h0] at HO
      have HO:=Lib.hid (show Calls Tryz.prog 175 #[.pointer (some ⟨b,0,none⟩),.int .i64 (n:Int)] wr fun e w'=>e = .returned (.tuple #[.int .i64 0,.bool false])∧Below wr.heap.size wr w' from HO.out)
      clear hr h0 HR
      go_wp2_with (go_at_call 175;((with_reducible refine HO.out.mono ?_);rintro e w3 ⟨rfl,h1⟩;have HF3:=Lib.hid (HF.out.below h1);have HP3:=Lib.hid (HPr.out.below h1);clear h1))
      go_ret
      exact ⟨HF3.out,.inr ⟨_,_,_,HRS.out,rfl,p',nv',us,rfl,HU.out,HK.out,HP3.out⟩⟩
    · rw [if_neg h0] at hr
      obtain ⟨kd,hkd⟩:∃ kd,opK n (ts.drop p')=kd:=⟨_,rfl⟩
      obtain ⟨q,hq1,hq2,hq3⟩:=opK_pos h0
      have hnx:=sign_next HPr.out hq2
      clear hq1 hq2 hq3 q
      rw [hkd] at HO hr h0
      have HO:=Lib.hid (show Calls Tryz.prog 175 #[.pointer (some ⟨b,0,none⟩),.int .i64 (n:Int)] wr fun e w'=>e = .returned (.tuple #[.int .i64 kd,.bool true])∧Below wr.heap.size wr w' by have:=HO.out;rw [decide_eq_true h0] at this;exact this)
      rw [List.tail_drop] at hr
      have hbase:vs.length+ns'.length=(vs++us).length:=by rw [List.length_append,hul]
      rw [hbase] at hr
      have HRR:=Lib.hid hr
      clear hr h0 HR hkd
      go_upto_region 7 with (go_at_call 175;((with_reducible refine HO.out.mono ?_);rintro e w3 ⟨rfl,h1⟩;have HF3:=Lib.hid (HF.out.below h1);have HP3:=Lib.hid (HPr.out.below h1);clear h1))
      clear HO HF HPr
      obtain ⟨c0,c1,c2,c3⟩:=HP3.out.facts
      have f1:=HP3.out.frozen 1
      clear c0 c2 c3
      go_upto_region 8 with (fail)
      have HP4:=Lib.hid (HP3.out.next hnx)
      have HF4:=Lib.hid (HF3.out.setCell 1 (.int .i64 ((p':Int)+1)))
      clear c1 f1 HP3 HF3
      generalize w3.setCell ⟨b,1,none⟩ (.int .i64 ((p':Int)+1))=w4 at HP4 HF4 ⊢
      have HRT:=Lib.hid (root_is HP4.out a' (by rw [ha,hbase]))
      rcases bindR_some HRR.out with ⟨c,h1,h2⟩ | ⟨ms,b2,r2,h1,h2⟩
      · subst h2
        have HL:=Lib.hid (show Calls Tryz.prog 74 #[.pointer (some ⟨b,0,none⟩),.int .i64 ((n:Int)+1)] w4 (Out (.error c) w4 b tv ts deep (vs++us)) from HIH.out g (by omega) (n+1) deep _ w4 b tv ts (p'+1) nv' (vs++us) hn4 HP4.out h1)
        clear h1 HRR
        go_wp2_with (first
         | (go_at_call 136;((with_reducible refine HRT.out.mono ?_);rintro e wn ⟨rfl,rfl⟩))
         | (go_at_call 74;((with_reducible refine HL.out.mono ?_);intro e w5 ho;obtain ⟨hf,hc,rfl⟩:=ho.bad rfl;have HF5:=Lib.hid (HF4.out.trans hf);have HC:=Lib.hid hc;have hc0:(c != 0)=true:=(by rw [bne_iff_ne];rcases hc with h | h <;> omega);clear hf hc ho)))
        go_ret
        exact Out.err rfl HC.out HF5.out
      · have HL := Lib.hid (show Calls Tryz.prog 74 #[.pointer (some ⟨b,0,none⟩),.int .i64 ((n:Int)+1)] w4 (Out (.ok (ms,b2,r2)) w4 b tv ts deep (vs++us)) from HIH.out g (by omega) (n+1) deep _ w4 b tv ts (p'+1) nv' (vs++us) hn4 HP4.out h1)
        have H1:=Lib.hid h1
        have H2:=Lib.hid h2
        clear h1 h2 HRR
        go_upto_region 12 with (first
         | (go_at_call 136;((with_reducible refine HRT.out.mono ?_);rintro e wn ⟨rfl,rfl⟩))
         | (go_at_call 74;((with_reducible refine HL.out.mono ?_);intro e w5 ho;obtain ⟨hf,rfl,p5,nv5,us5,hp5,hu5,hk5,hps5⟩:=ho.good rfl;have HS5:=Lib.hid hf.size;have HF5:=Lib.hid (HF4.out.trans hf);have HP5:=Lib.hid hps5;have HD5:=Lib.hid hp5;have HU5:=Lib.hid hu5;have HK5:=Lib.hid hk5;clear hf ho hp5 hu5 hk5 hps5)))
        obtain ⟨hc1,hc2,hc3⟩:=count_at H1.out HD5.out HP5.out.lt
        have hus5:us5.length=ms.length:=by rw [← HU5.out,List.length_map]
        have hlen5:((vs++us)++us5).length=vs.length+us.length+us5.length:=by rw [List.length_append,List.length_append]
        have hlen4:(vs++us).length=vs.length+us.length:=List.length_append
        have HRT5:=Lib.hid (root_is HP5.out b2 (by omega))
        have hbl:=HP5.out.blt
        have hB6:Below w5.heap.size w5 (w5.alloc (.cells #[.int .i64 (a':Int),.int .i64 (b2:Int)] 3)):=(Below.refl _ _).alloc (Nat.le_refl _) _
        have HP6:=Lib.hid (HP5.out.below hB6)
        have HF6:=Lib.hid (HF5.out.below hB6)
        have HA:=Lib.hid (show Calls Tryz.prog 135 #[.pointer (some ⟨b,0,none⟩),.agg #[.int .i64 kd,.int .i64 0,.string ⟨#[]⟩,.string ⟨#[]⟩,.int .i64 0,.int .i64 0,.bool false,.bool false,.string ⟨#[]⟩,.int .i64 0,.int .i64 0,.bool false,.bool false,.slice (some ⟨w5.heap.size,0,none⟩) 2 2]] (w5.alloc (.cells #[.int .i64 (a':Int),.int .i64 (b2:Int)] 3)) _ from add_any HP6.out ⟨{ Nd.zero with kind:=kd,kids:=[(a':Int),(b2:Int)] },some (w5.heap.size,2)⟩ (own_lit2 w5 (b+1) (a':Int) (b2:Int) (by omega)) (by omega) (.slice (some ⟨w5.heap.size,0,none⟩) 2 2) rfl { Nd.zero with kind:=kd,kids:=[(a':Int),(b2:Int)] } rfl)
        clear hB6 HL HRT
        go_wp2_with (first
         | (go_at_call 136;((with_reducible refine HRT5.out.mono ?_);rintro e wn ⟨rfl,rfl⟩))
         | (go_at_call 135;((with_reducible refine HA.out.mono ?_);rintro e w7 ⟨h1,rfl,nv7,h3⟩;have HF7:=Lib.hid (HF6.out.trans h1);have HP7:=Lib.hid h3;clear h1 h3)))
        go_roundw
        case rel =>
         refine ⟨g,ns'++(ms++[{ Nd.zero with kind:=kd,kids:=[(a':Int),(b2:Int)] }]),vs.length+(ns'.length+ms.length),p5,nv7,us++(us5++[⟨{ Nd.zero with kind:=kd,kids:=[(a':Int),(b2:Int)] },some (w5.heap.size,2)⟩]),by omega, ?_, ?_, ?_, ?_, ?_, ?_,HF7⟩
         rotate_left 2
         · rw [HD5.out];exact H2
         · refine Lib.hid ?_
           rw [List.map_append,List.map_append,HU.out,HU5.out];rfl
         · refine Lib.hid ?_
           intro u hu j hj
           rcases List.mem_append.1 hu with hu | hu
           · exact HK.out u hu j hj
           · rcases List.mem_append.1 hu with hu | hu
             · have:=HK5.out u hu j hj;have:=HF4.out.size;omega
             · rw [List.mem_singleton.1 hu] at hj
               have hj:some w5.heap.size=some j:=hj
               injection hj with hj
               have:=HF5.out.size;omega
         · rw [← List.append_assoc, ← List.append_assoc];exact HP7
         · rw [List.length_append,List.length_append,List.length_singleton];omega
         · rw [List.length_append,List.length_append,List.length_append,List.length_append,List.length_singleton,List.length_singleton];omega
        case measure =>
         have h1:=HP7.out.psm ts.length
         rw [HM.out,h1];omega
def brP (f deep base:Nat) (ts:List Tk):Option Res :=
 if signIs ⟨#[40]⟩ ts=true then
  if 12≤deep then some (.error 6)
  else bindR (exprP f 0 (deep+1) base ts.tail) fun ns a r=>if signIs ⟨#[41]⟩ r=true then some (.ok (ns,a,r.tail)) else some (.error 5)
 else some (.error 5)
set_option maxRecDepth 100000 in
set_option maxHeartbeats 2000000 in
theorem inBrackets_any (f:Nat) (IH:EX f) {w:World} {b:Nat} {tv:Value} {ts:List Tk} {p deep:Nat} {nv:Value} {vs:List Nv} (h:Ps w b tv ts p deep nv vs) (res:Res) (hres:brP f deep vs.length (ts.drop p)=some res) :
 Calls Tryz.prog 140 #[.pointer (some ⟨b,0,none⟩)] w (Out res w b tv ts deep vs):=by
 have HS:=Lib.hid (isSign_any h ⟨#[40]⟩)
 unfold brP at hres
 have HP:=Lib.hid h
 cases hq:signIs ⟨#[40]⟩ (ts.drop p)
 · rw [hq,if_neg (by decide)] at hres
   injection hres with hres
   have HR:=Lib.hid hres.symm
   rw [hq] at HS
   clear hq hres h
   go_enter Tryz.func140,Tryz.ntmps140
   go_wp2_with (go_at_call 133;((with_reducible refine HS.out.mono ?_);rintro e w1 ⟨rfl,h1⟩;have HB:=Lib.hid h1;clear h1))
   go_ret
   exact Out.err HR.out (.inl rfl) (Fr.of b HB.out)
 · have hnx:=sign_next h hq
   rw [hq,if_pos rfl] at hres
   rw [hq] at HS
   by_cases hd:12≤deep
   · rw [if_pos hd] at hres
     injection hres with hres
     have HR:=Lib.hid hres.symm
     clear hq hres h
     go_enter Tryz.func140,Tryz.ntmps140
     go_wp2_with (first
      | (go_at_call 133;((with_reducible refine HS.out.mono ?_);rintro e w1 ⟨rfl,h1⟩;have HF1:=Lib.hid (Fr.of b h1);have HO1:=Lib.hid (popen_any (HP.out.below h1) hnx);clear h1))
      | (go_at_call 134;((with_reducible refine HO1.out.mono ?_);rintro e w2 ⟨h1,⟨-,rfl⟩ | ⟨h2, -⟩⟩;rotate_left;exact absurd hd h2;have HF2:=Lib.hid (HF1.out.trans h1);clear h1)))
     go_ret
     exact Out.err HR.out (.inr rfl) HF2.out
   · rw [if_neg hd,List.tail_drop] at hres
     rcases bindR_some hres with ⟨c,h1,rfl⟩ | ⟨ns,a,r,h1,h2⟩
     · have HI:=Lib.hid (fun w2 hps=>IH 0 (deep+1) _ w2 b tv ts (p+1) nv vs (by omega) hps h1)
       clear hq hres h IH h1
       go_enter Tryz.func140,Tryz.ntmps140
       go_wp2_with (first
        | (go_at_call 133;((with_reducible refine HS.out.mono ?_);rintro e w1 ⟨rfl,h1⟩;have HF1:=Lib.hid (Fr.of b h1);have HO1:=Lib.hid (popen_any (HP.out.below h1) hnx);clear h1))
        | (go_at_call 134;((with_reducible refine HO1.out.mono ?_);rintro e w2 ⟨h1,⟨h2, -⟩ | ⟨-,rfl,h3⟩⟩;exact absurd h2 hd;have HF2:=Lib.hid (HF1.out.trans h1);have HL:=Lib.hid (show Calls Tryz.prog 74 #[.pointer (some ⟨b,0,none⟩),.int .i64 0] w2 (Out (.error c) w2 b tv ts (deep+1) vs) from HI.out w2 h3);clear h1 h3))
        | (go_at_call 74;((with_reducible refine HL.out.mono ?_);intro e w5 ho;obtain ⟨hf,hc,rfl⟩:=ho.bad rfl;have HF5:=Lib.hid (HF2.out.trans hf);have HC:=Lib.hid hc;have hc0:(c != 0)=true:=(by rw [bne_iff_ne];rcases hc with h | h <;> omega);clear hf hc ho)))
       go_ret
       exact Out.err rfl HC.out HF5.out
     · have HI:=Lib.hid (fun w2 hps=>IH 0 (deep+1) _ w2 b tv ts (p+1) nv vs (by omega) hps h1)
       have H2:=Lib.hid h2
       clear hq hres h IH h1 h2
       go_enter Tryz.func140,Tryz.ntmps140
       go_upto_region 9 with (first
        | (go_at_call 133;((with_reducible refine HS.out.mono ?_);rintro e w1 ⟨rfl,h1⟩;have HF1:=Lib.hid (Fr.of b h1);have HZ1:=Lib.hid h1.size;have HO1:=Lib.hid (popen_any (HP.out.below h1) hnx);clear h1))
        | (go_at_call 134;((with_reducible refine HO1.out.mono ?_);rintro e w2 ⟨h1,⟨h2, -⟩ | ⟨-,rfl,h3⟩⟩;exact absurd h2 hd;have HF2:=Lib.hid (HF1.out.trans h1);have HL:=Lib.hid (show Calls Tryz.prog 74 #[.pointer (some ⟨b,0,none⟩),.int .i64 0] w2 (Out (.ok (ns,a,r)) w2 b tv ts (deep+1) vs) from HI.out w2 h3);clear h1 h3))
        | (go_at_call 74;((with_reducible refine HL.out.mono ?_);intro e w5 ho;obtain ⟨hf,rfl,p5,nv5,us5,hp5,hu5,hk5,hps5⟩:=ho.good rfl;have HF5:=Lib.hid (HF2.out.trans hf);have HC5:=Lib.hid (pclose_any hps5);have HD5:=Lib.hid hp5;have HU5:=Lib.hid hu5;have HK5:=Lib.hid hk5;clear hf ho hp5 hu5 hk5 hps5)))
       have h2:=H2.out
       rw [← HD5.out] at h2
       have hz:=HF2.out.size
       cases hs:signIs ⟨#[41]⟩ (ts.drop p5)
       · rw [hs,if_neg (by decide)] at h2
         injection h2 with h2
         have HR:=Lib.hid h2.symm
         rw [hs] at HC5
         clear h2 hs
         go_wp2_with (go_at_call 179;((with_reducible refine HC5.out.mono ?_);rintro e w6 ⟨h1,⟨-,rfl⟩ | ⟨h2, -⟩⟩;rotate_left;cases h2;have HF6:=Lib.hid (HF5.out.trans h1);clear h1))
         go_ret
         exact Out.err HR.out (.inl rfl) HF6.out
       · rw [hs,if_pos rfl,List.tail_drop] at h2
         injection h2 with h2
         have HR:=Lib.hid h2.symm
         rw [hs] at HC5
         clear h2 hs
         go_wp2_with (go_at_call 179;((with_reducible refine HC5.out.mono ?_);rintro e w6 ⟨h1,⟨h2, -⟩ | ⟨-,rfl,h3⟩⟩;cases h2;have HF6:=Lib.hid (HF5.out.trans h1);have HP6:=Lib.hid h3;clear h1 h3))
         go_ret
         exact ⟨HF6.out,.inr ⟨_,_,_,HR.out,rfl,p5+1,nv5,us5,rfl,HU5.out,fun u hu j hj=>Nat.le_trans hz (HK5.out u hu j hj),HP6.out⟩⟩
theorem Elem.kid:∃ n,n≤100∧Elem Tryz.prog 135 3 1 n:=⟨8,by omega,Tryz.underlying135,⟨.int .i64 0,by kernel_rfl,rfl⟩,by decide⟩
theorem Own.blockLt {α : Type} {size:Nat} {E:Enc α size} {e:TypeId} {w:World} {base:Nat} {v:Value} {xs:List α} (h:Own E e w base v xs):∀ g,v.ownBlock=Option.some g→base≤g∧g<w.heap.size∧∃ cur,w.heap[g]? = Option.some (.cells cur e):=by
 intro g e
 rcases h.2 with ⟨h1,_⟩ | ⟨g',cap,cur,h1,h2,h3,_⟩
 · rw [h1] at e;cases e
 · rw [h1] at e;injection e with e
   have e:g'=g:=e
   subst e
   exact ⟨h2,(Array.getElem?_eq_some_iff.1 h3).1,cur,h3⟩
theorem Ps.kids {w w':World} {b:Nat} {tv:Value} {ts:List Tk} {p deep:Nat} {nv:Value} {vs:List Nv} (h:Ps w b tv ts p deep nv vs) {r:Option Nat} (hg:w.grownBy w' r) (hr:∀ g,r=some g→b<g∧¬ NodeRow w g∧∀ v∈vs,v.kv.ownBlock≠some g):Ps w' b tv ts p deep nv vs:=by
 have hlow:=h.low
 refine ⟨?_, ?_,⟨h.nodes.1.keep ?_,fun v hv=>(h.nodes.2 v hv).keep ?_⟩, ?_,h.lt,h.low,h.fit,h.few,h.cnt,h.nest⟩
 · rw [hg.block b h.blt (by intro e;have:=(hr b e.symm).1;omega)];exact h.cell
 · obtain ⟨g,cap,h1,h2,h3⟩:=h.toks
   exact ⟨g,cap,h1,h2,h3.keep fun j _ hj e=>hg.block j hj (by
    intro e2
    have:=(hr j e2.symm).1
    rw [h1] at e;injection e with e;have:g=j:=e;omega)⟩
 · intro g h1 h2 h3
   exact hg.block g h2 (fun e=>(hr g e.symm).2.1 (h.row g h3).2)
 · intro g h1 h2 h3
   exact hg.block g h2 (fun e=>(hr g e.symm).2.2 v hv h3)
 · exact h.ops.keep (hg.block _ h.ops.lt (by intro e;have:=(hr _ e.symm).1;omega))
def callK (base:Nat) (name:ByteArray) (ns:List Nd) (ks:List Int) (r:List Tk):Option Res :=
 if signIs ⟨#[41]⟩ r=true then some (.ok (ns++[{ Nd.zero with kind:=7,text:=name,kids:=ks }],base+ns.length,r.tail)) else some (.error 5)
def caP (f deep base:Nat) (name:ByteArray) (ts:List Tk):Option Res :=
 if 12≤deep then some (.error 6)
 else bindR (if signIs ⟨#[41]⟩ ts.tail=true then some (.ok ([],[],ts.tail)) else argsP f (deep+1) base [] [] ts.tail) (callK base name)
set_option maxRecDepth 100000 in
set_option maxHeartbeats 2000000 in
theorem call_deep (f:Nat) (name:ByteArray) {w:World} {b:Nat} {tv:Value} {ts:List Tk} {p deep:Nat} {nv:Value} {vs:List Nv} (h:Ps w b tv ts p deep nv vs) (hnx:p+1<ts.length) (res:Res) (hres:caP f deep vs.length name (ts.drop p)=some res) (hd:12≤deep) :
 Calls Tryz.prog 178 #[.pointer (some ⟨b,0,none⟩),.string name] w (Out res w b tv ts deep vs):=by
 have HO:=Lib.hid (popen_any h hnx)
 unfold caP at hres
 rw [if_pos hd] at hres
 injection hres with hres
 have HR:=Lib.hid hres.symm
 clear hres h
 go_enter Tryz.func178,Tryz.ntmps178
 go_wp2_with (go_at_call 134;((with_reducible refine HO.out.mono ?_);rintro e w2 ⟨h1,⟨-,rfl⟩ | ⟨h2, -⟩⟩;rotate_left;exact absurd hd h2;have HF2:=Lib.hid h1;clear h1))
 go_ret
 exact Out.err HR.out (.inr rfl) HF2.out
theorem bindR_bind {α β γ α' β' γ' δ : Type} (x:Option (Except Int (α × β × γ))) (k : α → β → γ → Option (Except Int (α' × β' × γ'))) (K : α' → β' → γ'→Option (Except Int δ)):bindR (bindR x k) K=bindR x fun a b c=>bindR (k a b c) K:=by
 match x with
 | none=>rfl
 | some (.error e)=>rfl
 | some (.ok (a,b,c))=>rfl
set_option maxRecDepth 100000 in
set_option maxHeartbeats 4000000 in
theorem call_any (f:Nat) (IH:∀ g,g≤f→EX g) (name:ByteArray) {w:World} {b:Nat} {tv:Value} {ts:List Tk} {p deep:Nat} {nv:Value} {vs:List Nv} (h:Ps w b tv ts p deep nv vs) (hnx:p+1<ts.length) (res:Res) (hres:caP f deep vs.length name (ts.drop p)=some res) :
 Calls Tryz.prog 178 #[.pointer (some ⟨b,0,none⟩),.string name] w (Out res w b tv ts deep vs):=by
 by_cases hd:12≤deep
 · exact call_deep f name h hnx res hres hd
 have HO:=Lib.hid (popen_any h hnx)
 unfold caP at hres
 rw [if_neg hd,List.tail_drop] at hres
 have HRES:=Lib.hid hres
 have HIH:=Lib.hid IH
 have hbl:=h.blt
 obtain ⟨eb,hEB,EL⟩:=Elem.kid
 have HEL:=Lib.hid EL
 clear hres h IH EL
 go_enter Tryz.func178,Tryz.ntmps178
 go_upto_region 6 with (first
  | (go_at_call 134;((with_reducible refine HO.out.mono ?_);rintro e w2 ⟨h1,⟨h2, -⟩ | ⟨-,rfl,h3⟩⟩;exact absurd h2 hd;have HF2:=Lib.hid h1;have HP2:=Lib.hid h3;have HS2:=Lib.hid (isSign_any h3 ⟨#[41]⟩);clear h1 h3))
  | (go_at_call 133;((with_reducible refine HS2.out.mono ?_);rintro e w3 ⟨rfl,h1⟩;have HF3:=Lib.hid (HF2.out.below h1);have HP3:=Lib.hid (HP2.out.below h1);clear h1)))
 go_loopw [6,7] (fun kvs mv wr=>∃ (kv:Value) (more:Bool) (g:Nat) (ns:List Nd) (ks:List Int) (p':Nat) (nv':Value) (us:List Nv),kv=kvs∧mv = .bool more∧g≤f∧ks.length≤us.length∧us.length=ns.length ∧
  Hid ((more=true∧bindR (argsP g (deep+1) vs.length ns ks (ts.drop p')) (callK vs.length name)=some res)∨(more=false∧callK vs.length name ns ks (ts.drop p')=some res)) ∧
  Hid (us.map Nv.n=ns)∧Hid (∀ u∈us,∀ j,u.kv.ownBlock=some j→w.heap.size≤j)∧Hid (∀ u∈vs++us,∀ j,u.kv.ownBlock=some j→kv.ownBlock≠some j) ∧
  Hid (Own (encInt .i64) 3 wr w.heap.size kv ks)∧Hid (Ps wr b tv ts p' (deep+1) nv' (vs++us))∧Hid (Fr w wr b))
  (fun _ _ wr=>psm b ts.length wr)
 case atStart =>
  have hr:=HRES.out
  refine ⟨.slice none 0 0,_,f,[],[],p+1,nv,[],rfl,rfl,Nat.le_refl _,Nat.le_refl _,rfl, ?_,Lib.hid rfl,Lib.hid (by simp),Lib.hid (by intro u _ j _ e;cases e),Lib.hid (Own.nil _ _ _ _),by rw [List.append_nil];exact HP3,HF3⟩
  refine Lib.hid ?_
  cases hs:signIs ⟨#[41]⟩ (ts.drop (p+1))
  · rw [hs,if_neg (by decide)] at hr
    exact .inl ⟨rfl,hr⟩
  · rw [hs,if_pos rfl] at hr
    exact .inr ⟨rfl,hr⟩
 case round =>
  clear HO HRES HF2 HP2 HS2 HF3 HP3
  obtain ⟨kv,more,g,ns,ks,p',nv',us,rfl,rfl,hg,hkl,hul,HM,HU,HK,HJ,HOK,HPr,HF⟩:=hrel
  have hfew:=HPr.out.few
  have hlt:=HPr.out.lt
  have hcnt:=HPr.out.cnt
  have hlen:(vs++us).length=vs.length+us.length:=List.length_append
  have HPM:=Lib.hid (HPr.out.psm ts.length)
  cases more
  · have hK : callK vs.length name ns ks (ts.drop p')=some res:=by
     rcases HM.out with ⟨h1,_⟩ | ⟨_,h1⟩
     · cases h1
     · exact h1
    unfold callK at hK
    have HC:=Lib.hid (pclose_any HPr.out)
    cases hs:signIs ⟨#[41]⟩ (ts.drop p')
    · rw [hs,if_neg (by decide)] at hK
      injection hK with hK
      have HR:=Lib.hid hK.symm
      rw [hs] at HC
      clear hK hs HM
      go_wp2_with (go_at_call 179;((with_reducible refine HC.out.mono ?_);rintro e w6 ⟨h1,⟨-,rfl⟩ | ⟨h2, -⟩⟩;rotate_left;cases h2;have HF6:=Lib.hid (HF.out.trans h1);clear h1))
      go_ret
      exact Out.err HR.out (.inl rfl) HF6.out
    · rw [hs,if_pos rfl,List.tail_drop] at hK
      injection hK with hK
      have HR:=Lib.hid hK.symm
      rw [hs] at HC
      clear hK hs HM
      obtain ⟨v,hvn,hvk⟩:∃ v:Nv,v.n={ Nd.zero with kind:=7,text:=name,kids:=ks }∧v.kv=kv:=by
       rcases HOK.out.shape with ⟨rfl,rfl⟩ | ⟨g1,cap,rfl,_⟩
       · exact ⟨⟨_,none⟩,rfl,rfl⟩
       · exact ⟨⟨_,some (g1,cap)⟩,rfl,rfl⟩
      have HVN:=Lib.hid hvn;have HVK:=Lib.hid hvk
      clear hvn hvk
      have hkv:(∃ g1 n1 cap,kv = .slice (some ⟨g1,0,none⟩) n1 cap)∨kv = .slice none 0 0:=by
       rcases HOK.out.shape with ⟨h1,_⟩ | ⟨g1,cap,h1,_⟩
       · exact .inr h1
       · exact .inl ⟨g1,_,cap,h1⟩
      rcases hkv with ⟨g1,n1,cap,rfl⟩ | rfl
      all_goals
       go_upto_region 15 with (go_at_call 179;((with_reducible refine HC.out.mono ?_);rintro e w6 ⟨h1,⟨h2, -⟩ | ⟨-,rfl,h3⟩⟩;cases h2;have HF6:=Lib.hid (HF.out.trans h1);have HOK6:=Lib.hid (HOK.out.fr h1 hbl (by decide));have HP6:=Lib.hid h3;clear h1 h3))
       have HA:=Lib.hid (show Calls Tryz.prog 135 #[.pointer (some ⟨b,0,none⟩),.agg #[.int .i64 7,.int .i64 0,.string name,.string ⟨#[]⟩,.int .i64 0,.int .i64 0,.bool false,.bool false,.string ⟨#[]⟩,.int .i64 0,.int .i64 0,.bool false,.bool false,_]] w6 _ from add_any HP6.out v (by rw [HVK.out,HVN.out];exact HOK6.out.mono (by omega)) (by omega) _ HVK.out { Nd.zero with kind:=7,text:=name,kids:=ks } HVN.out)
       go_wp2_with (go_at_call 135;((with_reducible refine HA.out.mono ?_);rintro e w7 ⟨h1,rfl,nv7,h3⟩;have HF7:=Lib.hid (HF6.out.trans h1);have HP7:=Lib.hid h3;clear h1 h3))
       go_ret
       refine ⟨HF7.out,.inr ⟨_,_,_,HR.out,rfl,p'+1,nv7,us++[v],rfl, ?_, ?_,by rw [← List.append_assoc];exact HP7.out⟩⟩
       · rw [List.map_append,HU.out,List.map_cons,List.map_nil,HVN.out]
       · intro u hu j hj
         rcases List.mem_append.1 hu with hu | hu
         · exact HK.out u hu j hj
         · rw [List.mem_singleton.1 hu,HVK.out] at hj
           exact (HOK.out.blockLt j hj).1
  · have hA:bindR (argsP g (deep+1) vs.length ns ks (ts.drop p')) (callK vs.length name)=some res:=by
     rcases HM.out with ⟨_,h1⟩ | ⟨h1,_⟩
     · exact h1
     · cases h1
    match g,hg,hA with
    | 0,_,hA=>unfold argsP bindR at hA;cases hA
    | g+1,hg,hA =>
    rw [argsP_succ,bindR_bind] at hA
    have hbase:vs.length+ns.length=(vs++us).length:=by rw [hlen,hul]
    rw [hbase] at hA
    rcases bindR_some hA with ⟨c,h1,rfl⟩ | ⟨ms,a,r,h1,h2⟩
    · have HL:=Lib.hid (show Calls Tryz.prog 74 #[.pointer (some ⟨b,0,none⟩),.int .i64 0] wr (Out (.error c) wr b tv ts (deep+1) (vs++us)) from HIH.out g (by omega) 0 (deep+1) _ wr b tv ts p' nv' (vs++us) (by omega) HPr.out h1)
      clear h1 hA HM
      go_wp2_with (go_at_call 74;((with_reducible refine HL.out.mono ?_);intro e w5 ho;obtain ⟨hf,hc,rfl⟩:=ho.bad rfl;have HF5:=Lib.hid (HF.out.trans hf);have HC:=Lib.hid hc;have hc0:(c != 0)=true:=(by rw [bne_iff_ne];rcases hc with h | h <;> omega);clear hf hc ho))
      go_ret
      exact Out.err rfl HC.out HF5.out
    · have HL:=Lib.hid (show Calls Tryz.prog 74 #[.pointer (some ⟨b,0,none⟩),.int .i64 0] wr (Out (.ok (ms,a,r)) wr b tv ts (deep+1) (vs++us)) from HIH.out g (by omega) 0 (deep+1) _ wr b tv ts p' nv' (vs++us) (by omega) HPr.out h1)
      have H1:=Lib.hid h1
      have H2:=Lib.hid h2
      clear h1 h2 hA HM
      go_upto_region 11 with (go_at_call 74;((with_reducible refine HL.out.mono ?_);intro e w5 ho;obtain ⟨hf,rfl,p5,nv5,us5,hp5,hu5,hk5,hps5⟩:=ho.good rfl;have HF5:=Lib.hid (HF.out.trans hf);have HOK5:=Lib.hid (HOK.out.fr hf hbl (by decide));have HP5:=Lib.hid hps5;have HD5:=Lib.hid hp5;have HU5:=Lib.hid hu5;have HK5:=Lib.hid hk5;clear hf ho hp5 hu5 hk5 hps5))
      obtain ⟨hc1,hc2,hc3⟩:=count_at H1.out HD5.out HP5.out.lt
      have hus5:us5.length=ms.length:=by rw [← HU5.out,List.length_map]
      have hlen5:((vs++us)++us5).length=vs.length+us.length+us5.length:=by rw [List.length_append,List.length_append]
      have HRT5:=Lib.hid (root_is HP5.out a (by omega))
      have hsz5:=HF5.out.size
      have HZr:=Lib.hid HF.out.size
      have HJ5:=Lib.hid (show ∀ u∈(vs++us)++us5,∀ j,u.kv.ownBlock=some j→kv.ownBlock≠some j from by
       intro u hu j hj
       rcases List.mem_append.1 hu with hu | hu
       · exact HJ.out u hu j hj
       · intro e
         have h3:=HK5.out u hu j hj
         have h4:=(HOK.out.blockLt j e).2.1
         omega)
      clear HL HOK HJ
      go_upto_region 7 with (first
       | (go_at_call 136;((with_reducible refine HRT5.out.mono ?_);rintro e wn ⟨rfl,rfl⟩))
       | (at_builtin;refine wpList_app_at HEL.out (encInt .i64) rfl (.tmp 26) (.tmp 29) rfl w.heap.size kv ks rfl (HOK5.out.alloc _) ⟨w5.heap.size,0,none⟩ 1 1 [(a:Int)] rfl rfl ?_ ?_ ?_ ?_ ?_;exact cells_new _ _ _ rfl;exact Nat.le_trans (Nat.mul_le_mul_left _ hEB) (by omega);(unfold maxLen;omega);(simp <;> omega);intro kv' w6 h1 h2 h3;have HO6:=Lib.hid h1;have HG6:=Lib.hid h2;have HAT:=Lib.hid h3;clear h1 h2 h3))
      have hB6:Below w5.heap.size w5 (w5.alloc (.cells #[.int .i64 (a:Int)] 3)):=(Below.refl _ _).alloc (Nat.le_refl _) _
      have hO5:=HOK5.out.alloc (.cells #[.int .i64 (a:Int)] 3)
      have HP6:=Lib.hid ((HP5.out.below hB6).kids HG6.out (by
       intro j e
       obtain ⟨q1,q2,cur,q3⟩:=hO5.blockLt j e
       refine ⟨by omega, ?_,fun u hu e2=>HJ5.out u hu j e2 e⟩
       rintro ⟨cur',fr,e2⟩
       rw [q3] at e2;injection e2 with e2;injection e2 with _ e2
       exact absurd e2 (by decide)))
      have HF6:=Lib.hid ((HF5.out.below hB6).row HG6.out (by
       intro j e
       obtain ⟨q1,q2,cur,q3⟩:=hO5.blockLt j e
       exact ⟨by omega,.inl q1⟩))
      have HJ6:=Lib.hid (show ∀ u∈(vs++us)++us5,∀ j,u.kv.ownBlock=some j→kv'.ownBlock≠some j from by
       intro u hu j hj
       rcases HAT.out with e | e
       · rw [e];exact HJ5.out u hu j hj
       · rw [e]
         have h4:=((HP5.out.nodes.2 u hu).blockLt j hj).2.1
         intro e2;injection e2 with e2
         simp at e2;omega)
      have HT6:=Lib.hid (ptake_any HP6.out ⟨#[44]⟩)
      have h2:=H2.out
      rw [← HD5.out] at h2
      clear hB6 hO5 HG6 HAT HJ5 HOK5 HF HPr H2 HRT5
      have hKU:∀ u∈us++us5,∀ j,u.kv.ownBlock=some j→w.heap.size≤j:=by
       intro u hu j hj
       rcases List.mem_append.1 hu with hu | hu
       · exact HK.out u hu j hj
       · exact Nat.le_trans HZr.out (HK5.out u hu j hj)
      have HKU:=Lib.hid hKU;clear hKU
      cases hs:signIs ⟨#[44]⟩ (ts.drop p5)
      · rw [hs,if_neg (by decide)] at h2
        have HN:=Lib.hid (show callK vs.length name (ns++ms) (ks++[(a:Int)]) (ts.drop p5)=some res from h2)
        rw [hs,if_neg (by decide)] at HT6
        clear h2 hs
        go_wp2_with (go_at_call 176;((with_reducible refine HT6.out.mono ?_);rintro e w7 ⟨h1,rfl,h3⟩;have HF7:=Lib.hid (HF6.out.trans h1);have HO7:=Lib.hid (HO6.out.fr h1 hbl (by decide));have HP7:=Lib.hid h3;clear h1 h3))
        go_roundw
        case rel =>
         refine ⟨kv',false,g,ns++ms,ks++[(a:Int)],p5,nv5,us++us5,rfl,rfl,by omega,by rw [List.length_append,List.length_append,List.length_singleton];omega,by rw [List.length_append,List.length_append];omega,Lib.hid (.inr ⟨rfl,HN.out⟩),Lib.hid (by rw [List.map_append,HU.out,HU5.out]),HKU, ?_,HO7, ?_,HF7⟩
         · rw [← List.append_assoc];exact HJ6
         · rw [← List.append_assoc];exact HP7
        case measure =>
         have h1:=HP7.out.psm ts.length
         rw [HPM.out,h1];omega
      · rw [hs,if_pos rfl,List.tail_drop] at h2
        have HN:=Lib.hid h2
        have hnx5:=sign_next HP6.out hs
        rw [hs,if_pos rfl] at HT6
        clear h2 hs
        go_wp2_with (go_at_call 176;((with_reducible refine HT6.out.mono ?_);rintro e w7 ⟨h1,rfl,h3⟩;have HF7:=Lib.hid (HF6.out.trans h1);have HO7:=Lib.hid (HO6.out.fr h1 hbl (by decide));have HP7:=Lib.hid h3;clear h1 h3))
        go_roundw
        case rel =>
         refine ⟨kv',true,g,ns++ms,ks++[(a:Int)],p5+1,nv5,us++us5,rfl,rfl,by omega,by rw [List.length_append,List.length_append,List.length_singleton];omega,by rw [List.length_append,List.length_append];omega,Lib.hid (.inl ⟨rfl,HN.out⟩),Lib.hid (by rw [List.map_append,HU.out,HU5.out]),HKU, ?_,HO7, ?_,HF7⟩
         · rw [← List.append_assoc];exact HJ6
         · rw [← List.append_assoc];exact HP7
        case measure =>
         have h1:=HP7.out.psm ts.length
         rw [HPM.out,h1];omega
def wordP (f deep base:Nat) (name:ByteArray) (ts:List Tk):Option Res :=
 if name=⟨#[84,82,85,69]⟩ then some (.ok ([{ Nd.zero with kind:=3,num:=1 }],base,ts))
 else if name=⟨#[70,65,76,83,69]⟩ then some (.ok ([{ Nd.zero with kind:=3 }],base,ts))
 else if signIs ⟨#[40]⟩ ts=true then caP f deep base name ts else some (.error 5)
theorem word_eq (name c:ByteArray):(name.toList == c.toList)=decide (name=c):=by
 by_cases h:name=c
 · rw [h,decide_eq_true rfl];simp
 · rw [decide_eq_false h];exact beq_eq_false_iff_ne.2 (text_ne _ _ h)
theorem list_true:(⟨#[84,82,85,69]⟩:ByteArray).toList=[84,82,85,69]:=by rw [list_bytes]
theorem list_false:(⟨#[70,65,76,83,69]⟩:ByteArray).toList=[70,65,76,83,69]:=by rw [list_bytes]
set_option maxRecDepth 100000 in
set_option maxHeartbeats 2000000 in
theorem pword_any (f:Nat) (IH:∀ g,g≤f→EX g) (name:ByteArray) {w:World} {b:Nat} {tv:Value} {ts:List Tk} {p deep:Nat} {nv:Value} {vs:List Nv} (h:Ps w b tv ts p deep nv vs) (hnx:p+1<ts.length) (res:Res) (hres:wordP f deep vs.length name (ts.drop (p+1))=some res) :
 Calls Tryz.prog 139 #[.pointer (some ⟨b,0,none⟩),.string name] w (Out res w b tv ts deep vs):=by
 unfold wordP at hres
 have q1:=word_eq name ⟨#[84,82,85,69]⟩
 have q2:=word_eq name ⟨#[70,65,76,83,69]⟩
 rw [list_true] at q1
 rw [list_false] at q2
 by_cases h1:name=⟨#[84,82,85,69]⟩
 · rw [decide_eq_true h1] at q1
   rw [if_pos h1] at hres
   injection hres with hres
   have HR:=Lib.hid hres.symm
   have HA:=Lib.hid (show Calls Tryz.prog 137 #[.pointer (some ⟨b,0,none⟩),.agg #[.int .i64 3,.int .i64 1,.string ⟨#[]⟩,.string ⟨#[]⟩,.int .i64 0,.int .i64 0,.bool false,.bool false,.string ⟨#[]⟩,.int .i64 0,.int .i64 0,.bool false,.bool false,.slice none 0 0]] w _ from leaf_any h hnx { Nd.zero with kind:=3,num:=1 } rfl)
   clear hres h h1 q2
   go_enter Tryz.func139,Tryz.ntmps139
   go_wp2_with (go_at_call 137;((with_reducible refine HA.out.mono ?_);rintro e w7 ⟨h1,rfl,nv',h3⟩;have HF7:=Lib.hid h1;have HP7:=Lib.hid h3;clear h1 h3))
   go_ret
   exact Out.leaf HR.out HF7.out rfl HP7.out
 rw [decide_eq_false h1] at q1
 rw [if_neg h1] at hres
 by_cases h2:name=⟨#[70,65,76,83,69]⟩
 · rw [decide_eq_true h2] at q2
   rw [if_pos h2] at hres
   injection hres with hres
   have HR:=Lib.hid hres.symm
   have HA:=Lib.hid (show Calls Tryz.prog 137 #[.pointer (some ⟨b,0,none⟩),.agg #[.int .i64 3,.int .i64 0,.string ⟨#[]⟩,.string ⟨#[]⟩,.int .i64 0,.int .i64 0,.bool false,.bool false,.string ⟨#[]⟩,.int .i64 0,.int .i64 0,.bool false,.bool false,.slice none 0 0]] w _ from leaf_any h hnx { Nd.zero with kind:=3 } rfl)
   clear hres h h1 h2
   go_enter Tryz.func139,Tryz.ntmps139
   go_wp2_with (go_at_call 137;((with_reducible refine HA.out.mono ?_);rintro e w7 ⟨h1,rfl,nv',h3⟩;have HF7:=Lib.hid h1;have HP7:=Lib.hid h3;clear h1 h3))
   go_ret
   exact Out.leaf HR.out HF7.out rfl HP7.out
 rw [decide_eq_false h2] at q2
 rw [if_neg h2] at hres
 obtain ⟨c0,c1,c2,c3⟩:=h.facts
 have f1:=h.frozen 1
 have hfew:=h.few
 have HP:=Lib.hid h
 clear c0 c2 c3 h1 h2 h
 have HP1:=Lib.hid (HP.out.next hnx)
 have HF1:=Lib.hid ((Fr.refl w b).setCell 1 (.int .i64 ((p:Int)+1)))
 cases hs:signIs ⟨#[40]⟩ (ts.drop (p+1))
 · rw [hs,if_neg (by decide)] at hres
   injection hres with hres
   have HR:=Lib.hid hres.symm
   have HS:=isSign_any HP1.out ⟨#[40]⟩
   rw [hs] at HS
   have HS:=Lib.hid HS
   clear hres hs
   go_enter Tryz.func139,Tryz.ntmps139
   go_upto_region 7 with (fail)
   generalize w.setCell ⟨b,1,none⟩ (.int .i64 ((p:Int)+1))=w1 at HP1 HF1 HS ⊢
   go_wp2_with (go_at_call 133;((with_reducible refine HS.out.mono ?_);rintro e w2 ⟨rfl,h1⟩;have HF2:=Lib.hid (HF1.out.below h1);clear h1))
   go_ret
   exact Out.err HR.out (.inl rfl) HF2.out
 · rw [hs,if_pos rfl] at hres
   have HRES:=Lib.hid hres
   have hnx1:=sign_next HP1.out hs
   have HS:=isSign_any HP1.out ⟨#[40]⟩
   rw [hs] at HS
   have HS:=Lib.hid HS
   have HIH:=Lib.hid IH
   clear hres hs IH
   go_enter Tryz.func139,Tryz.ntmps139
   go_upto_region 7 with (fail)
   generalize w.setCell ⟨b,1,none⟩ (.int .i64 ((p:Int)+1))=w1 at HP1 HF1 HS ⊢
   go_wp2_with (first
    | (go_at_call 133;((with_reducible refine HS.out.mono ?_);rintro e w2 ⟨rfl,h1⟩;have HF2:=Lib.hid (HF1.out.below h1);have HCA:=Lib.hid (call_any f HIH.out name (HP1.out.below h1) hnx1 res HRES.out);clear h1))
    | (go_at_call 178;((with_reducible refine HCA.out.mono ?_);intro e w3 ho;have HOO:=Lib.hid ho;obtain ⟨c,rfl⟩:=ho.ret;clear ho)))
   go_ret
   obtain ⟨hf,h2⟩:=HOO.out
   refine ⟨HF2.out.trans hf,h2.imp id ?_⟩
   rintro ⟨ms,a,r,g1,g2,p',nv',us,g3,g4,g5,g6⟩
   exact ⟨ms,a,r,g1,g2,p',nv',us,g3,g4,fun u hu j hj=>Nat.le_trans HF2.out.size (g5 u hu j hj),g6⟩
theorem Out.from {res:Res} {w w2 w3:World} {b:Nat} {tv:Value} {ts:List Tk} {deep:Nat} {vs:List Nv} {e:Ending} (hf:Fr w w2 b) (h:Out res w2 b tv ts deep vs e w3):Out res w b tv ts deep vs e w3:=by
 refine ⟨hf.trans h.1,h.2.imp id ?_⟩
 rintro ⟨ms,a,r,g1,g2,p',nv',us,g3,g4,g5,g6⟩
 exact ⟨ms,a,r,g1,g2,p',nv',us,g3,g4,fun u hu j hj=>Nat.le_trans hf.size (g5 u hu j hj),g6⟩
theorem sign_kind {s:ByteArray} {t:Tk} {ts:List Tk} (h:¬ t.kind=5):signIs s (t :: ts)=false:=by
 show (decide (t.kind=5)&&decide (t.text=s))=false
 rw [decide_eq_false h];rfl
set_option maxRecDepth 100000 in
set_option maxHeartbeats 4000000 in
theorem prim_any (f:Nat) (IH:∀ g,g≤f→EX g) {w:World} {b:Nat} {tv:Value} {ts:List Tk} {p deep:Nat} {nv:Value} {vs:List Nv} (h:Ps w b tv ts p deep nv vs) (res:Res) (hres:primP (f+1) deep vs.length (ts.drop p)=some res) :
 Calls Tryz.prog 106 #[.pointer (some ⟨b,0,none⟩)] w (Out res w b tv ts deep vs):=by
 obtain ⟨g,cap,t, -,ht,hd, -⟩:=h.tok
 have HTK:=Lib.hid (ptoken_any h t ht)
 have HP:=Lib.hid h
 have hbl:=h.blt
 rw [hd,primP_cons] at hres
 go_enter Tryz.func106,Tryz.ntmps106
 go_upto_region 2 with (go_at_call 75;((with_reducible refine HTK.out.mono ?_);rintro e w1 ⟨rfl,h1⟩;have HB:=Lib.hid h1;clear h1))
 have hB3:Below w1.heap.size w1 (w1.alloc (.cells #[.int .i64 t.kind,.string t.text,.int .i64 t.num,.string t.sh,.int .i64 t.c,.int .i64 t.r,.bool t.ac,.bool t.ar,.int .i64 t.pos] 101)):=(Below.refl _ _).alloc (Nat.le_refl _) _
 have HN3:TkAt (w1.alloc (.cells #[.int .i64 t.kind,.string t.text,.int .i64 t.num,.string t.sh,.int .i64 t.c,.int .i64 t.r,.bool t.ac,.bool t.ar,.int .i64 t.pos] 101)) w1.heap.size t:=TkAt.new w1 t
 have HB3:=Lib.hid (HB.out.trans (hB3.mono HB.out.size))
 clear hB3 HB
 generalize hb4:w1.heap.size=b4 at HN3 ⊢
 generalize w1.alloc (.cells #[.int .i64 t.kind,.string t.text,.int .i64 t.num,.string t.sh,.int .i64 t.c,.int .i64 t.r,.bool t.ac,.bool t.ar,.int .i64 t.pos] 101)=w3 at HN3 HB3 ⊢
 clear hb4 HTK
 obtain ⟨x0,x1,x2,x3,x4,x5,x6,x7,x8⟩:=HN3.cells
 clear HN3
 have HP3:=Lib.hid (HP.out.below HB3.out)
 have HF3:=Lib.hid (Fr.of b HB3.out)
 obtain ⟨kd,hkd⟩:∃ kd,t.kind=kd:=⟨_,rfl⟩
 by_cases k1:t.kind=1
 · have hnx:=h.fit.next ht (by omega)
   rw [sign_kind (by omega),if_neg (by decide),if_pos k1] at hres
   injection hres with hres
   have HR:=Lib.hid hres.symm
   have HA:=Lib.hid (show Calls Tryz.prog 137 #[.pointer (some ⟨b,0,none⟩),.agg #[.int .i64 1,.int .i64 t.num,.string ⟨#[]⟩,.string ⟨#[]⟩,.int .i64 0,.int .i64 0,.bool false,.bool false,.string ⟨#[]⟩,.int .i64 0,.int .i64 0,.bool false,.bool false,.slice none 0 0]] w3 _ from leaf_any HP3.out hnx { Nd.zero with kind:=1,num:=t.num } rfl)
   have e1:(kd == 1)=true:=beq_iff_eq.2 (by omega)
   rw [hkd] at x0
   clear hres hd ht k1 hkd h
   go_wp2_with (go_at_call 137;((with_reducible refine HA.out.mono ?_);rintro e w7 ⟨h1,rfl,nv',h3⟩;have HF7:=Lib.hid (HF3.out.trans h1);have HP7:=Lib.hid h3;clear h1 h3))
   go_ret
   exact Out.leaf HR.out HF7.out rfl HP7.out
 have e1:(kd == 1)=false:=beq_eq_false_iff_ne.2 (by omega)
 by_cases k2:t.kind=2
 · have hnx:=h.fit.next ht (by omega)
   rw [sign_kind (by omega),if_neg (by decide),if_neg k1,if_pos k2] at hres
   injection hres with hres
   have HR:=Lib.hid hres.symm
   have HA:=Lib.hid (show Calls Tryz.prog 137 #[.pointer (some ⟨b,0,none⟩),.agg #[.int .i64 2,.int .i64 0,.string t.text,.string ⟨#[]⟩,.int .i64 0,.int .i64 0,.bool false,.bool false,.string ⟨#[]⟩,.int .i64 0,.int .i64 0,.bool false,.bool false,.slice none 0 0]] w3 _ from leaf_any HP3.out hnx { Nd.zero with kind:=2,text:=t.text } rfl)
   have e2:(kd == 2)=true:=beq_iff_eq.2 (by omega)
   rw [hkd] at x0
   clear hres hd ht k1 k2 hkd h
   go_wp2_with (go_at_call 137;((with_reducible refine HA.out.mono ?_);rintro e w7 ⟨h1,rfl,nv',h3⟩;have HF7:=Lib.hid (HF3.out.trans h1);have HP7:=Lib.hid h3;clear h1 h3))
   go_ret
   exact Out.leaf HR.out HF7.out rfl HP7.out
 have e2:(kd == 2)=false:=beq_eq_false_iff_ne.2 (by omega)
 by_cases k6:t.kind=6
 · have hnx:=h.fit.next ht (by omega)
   rw [sign_kind (by omega),if_neg (by decide),if_neg k1,if_neg k2,if_pos k6] at hres
   injection hres with hres
   have HR:=Lib.hid hres.symm
   have HA:=Lib.hid (show Calls Tryz.prog 137 #[.pointer (some ⟨b,0,none⟩),.agg #[.int .i64 4,.int .i64 0,.string ⟨#[]⟩,.string ⟨#[]⟩,.int .i64 0,.int .i64 0,.bool false,.bool false,.string ⟨#[]⟩,.int .i64 0,.int .i64 0,.bool false,.bool false,.slice none 0 0]] w3 _ from leaf_any HP3.out hnx { Nd.zero with kind:=4 } rfl)
   have e6:(kd == 6)=true:=beq_iff_eq.2 (by omega)
   rw [hkd] at x0
   clear hres hd ht k1 k2 k6 hkd h
   go_wp2_with (go_at_call 137;((with_reducible refine HA.out.mono ?_);rintro e w7 ⟨h1,rfl,nv',h3⟩;have HF7:=Lib.hid (HF3.out.trans h1);have HP7:=Lib.hid h3;clear h1 h3))
   go_ret
   exact Out.leaf HR.out HF7.out rfl HP7.out
 have e6:(kd == 6)=false:=beq_eq_false_iff_ne.2 (by omega)
 by_cases k4:t.kind=4
 · have hnx:=h.fit.next ht (by omega)
   rw [sign_kind (by omega),if_neg (by decide),if_neg k1,if_neg k2,if_neg k6,if_pos k4] at hres
   injection hres with hres
   have HA:=Lib.hid (place_any HP3.out t hnx vs.length)
   rw [hres] at HA
   have e4:(kd == 4)=true:=beq_iff_eq.2 (by omega)
   rw [hkd] at x0
   clear hres hd ht k1 k2 k6 k4 hkd h
   go_wp2_with (go_at_call 138;((with_reducible refine HA.out.mono ?_);intro e w7 ho;have HOO:=Lib.hid (Out.from HF3.out ho);obtain ⟨c,rfl⟩:=ho.ret;clear ho))
   go_ret
   exact HOO.out
 have e4:(kd == 4)=false:=beq_eq_false_iff_ne.2 (by omega)
 by_cases k3:t.kind=3
 · have hnx:=h.fit.next ht (by omega)
   rw [sign_kind (by omega),if_neg (by decide),if_neg k1,if_neg k2,if_neg k6,if_neg k4,if_pos k3] at hres
   have HA:=Lib.hid (pword_any f IH t.text HP3.out hnx res hres)
   have e3:(kd == 3)=true:=beq_iff_eq.2 (by omega)
   rw [hkd] at x0
   clear hres hd ht k1 k2 k6 k4 k3 hkd h IH
   go_wp2_with (go_at_call 139;((with_reducible refine HA.out.mono ?_);intro e w7 ho;have HOO:=Lib.hid (Out.from HF3.out ho);obtain ⟨c,rfl⟩:=ho.ret;clear ho))
   go_ret
   exact HOO.out
 have e3:(kd == 3)=false:=beq_eq_false_iff_ne.2 (by omega)
 have hb:brP f deep vs.length (ts.drop p)=some res:=by
  unfold brP
  rw [hd]
  by_cases c:signIs ⟨#[40]⟩ (t :: ts.drop (p+1))=true
  · rw [if_pos c] at hres ⊢;exact hres
  · rw [if_neg c,if_neg k1,if_neg k2,if_neg k6,if_neg k4,if_neg k3] at hres
    rw [if_neg c];exact hres
 have HA:=Lib.hid (inBrackets_any f (IH f (Nat.le_refl _)) HP3.out res hb)
 rw [hkd] at x0
 clear hres hd ht k1 k2 k6 k4 k3 hkd h IH hb
 go_wp2_with (go_at_call 140;((with_reducible refine HA.out.mono ?_);intro e w7 ho;have HOO:=Lib.hid (Out.from HF3.out ho);obtain ⟨c,rfl⟩:=ho.ret;clear ho))
 go_ret
 exact HOO.out
set_option maxRecDepth 100000 in
set_option maxHeartbeats 4000000 in
theorem unary_any (f:Nat) (IH:∀ g,g≤f→EX g) {w:World} {b:Nat} {tv:Value} {ts:List Tk} {p deep:Nat} {nv:Value} {vs:List Nv} (h:Ps w b tv ts p deep nv vs) (res:Res) (hres:exprP (f+1) 4 deep vs.length (ts.drop p)=some res) :
 Calls Tryz.prog 105 #[.pointer (some ⟨b,0,none⟩)] w (Out res w b tv ts deep vs):=by
 have HS:=Lib.hid (isSign_any h ⟨#[45]⟩)
 rw [exprP_succ,if_neg (by omega)] at hres
 have HP:=Lib.hid h
 cases hq:signIs ⟨#[45]⟩ (ts.drop p)
 · rw [hq,if_neg (by decide)] at hres
   rw [hq] at HS
   match f,IH,hres with
   | 0,_,hres=>unfold primP at hres;cases hres
   | f+1,IH,hres =>
   have HL:=Lib.hid (fun w1 (hb:Below w.heap.size w w1)=>level_enter b 5 (by omega) w1 (Out res w b tv ts deep vs) (fun e w' ho=>ho.ret) (fun w2 hb2=>by
    rw [lv5]
    exact (prim_any f (fun g hg=>IH g (by omega)) (HP.out.below (hb.trans (hb2.mono hb.size))) res hres).mono fun e w3 ho=>Out.from (Fr.of b (hb.trans (hb2.mono hb.size))) ho))
   clear hq hres h IH
   go_enter Tryz.func105,Tryz.ntmps105
   go_wp2_with (first
    | (go_at_call 133;((with_reducible refine HS.out.mono ?_);rintro e w1 ⟨rfl,h1⟩;have HL1:=Lib.hid (show Calls Tryz.prog 74 #[.pointer (some ⟨b,0,none⟩),.int .i64 5] w1 (Out res w b tv ts deep vs) from HL.out w1 h1);clear h1))
    | (go_at_call 74;((with_reducible refine HL1.out.mono ?_);intro e w2 ho;have HOO:=Lib.hid ho;obtain ⟨c,rfl⟩:=ho.ret;clear ho)))
   go_ret
   exact HOO.out
 · have hnx := sign_next h hq
   rw [hq,if_pos rfl] at hres
   rw [hq] at HS
   by_cases hd:12≤deep
   · rw [if_pos hd] at hres
     injection hres with hres
     have HR:=Lib.hid hres.symm
     clear hq hres h IH
     go_enter Tryz.func105,Tryz.ntmps105
     go_wp2_with (first
      | (go_at_call 133;((with_reducible refine HS.out.mono ?_);rintro e w1 ⟨rfl,h1⟩;have HF1:=Lib.hid (Fr.of b h1);have HO1:=Lib.hid (popen_any (HP.out.below h1) hnx);clear h1))
      | (go_at_call 134;((with_reducible refine HO1.out.mono ?_);rintro e w2 ⟨h1,⟨-,rfl⟩ | ⟨h2, -⟩⟩;rotate_left;exact absurd hd h2;have HF2:=Lib.hid (HF1.out.trans h1);clear h1)))
     go_ret
     exact Out.err HR.out (.inr rfl) HF2.out
   · rw [if_neg hd,List.tail_drop] at hres
     rcases bindR_some hres with ⟨c,h1,rfl⟩ | ⟨ns,a,r,h1,h2⟩
     · have HI:=Lib.hid (fun w2 hps=>IH f (Nat.le_refl _) 4 (deep+1) _ w2 b tv ts (p+1) nv vs (by omega) hps h1)
       clear hq hres h IH h1
       go_enter Tryz.func105,Tryz.ntmps105
       go_wp2_with (first
        | (go_at_call 133;((with_reducible refine HS.out.mono ?_);rintro e w1 ⟨rfl,h1⟩;have HF1:=Lib.hid (Fr.of b h1);have HO1:=Lib.hid (popen_any (HP.out.below h1) hnx);clear h1))
        | (go_at_call 134;((with_reducible refine HO1.out.mono ?_);rintro e w2 ⟨h1,⟨h2, -⟩ | ⟨-,rfl,h3⟩⟩;exact absurd h2 hd;have HF2:=Lib.hid (HF1.out.trans h1);have HL:=Lib.hid (show Calls Tryz.prog 74 #[.pointer (some ⟨b,0,none⟩),.int .i64 4] w2 (Out (.error c) w2 b tv ts (deep+1) vs) from HI.out w2 h3);clear h1 h3))
        | (go_at_call 74;((with_reducible refine HL.out.mono ?_);intro e w5 ho;obtain ⟨hf,hc,rfl⟩:=ho.bad rfl;have HF5:=Lib.hid (HF2.out.trans hf);have HC:=Lib.hid hc;have hc0:(c != 0)=true:=(by rw [bne_iff_ne];rcases hc with h | h <;> omega);clear hf hc ho)))
       go_ret
       exact Out.err rfl HC.out HF5.out
     · have HI:=Lib.hid (fun w2 hps=>IH f (Nat.le_refl _) 4 (deep+1) _ w2 b tv ts (p+1) nv vs (by omega) hps h1)
       have H1:=Lib.hid h1
       injection h2 with h2
       have HR:=Lib.hid h2.symm
       have hcn:=h.cnt
       have hnest:deep≤12:=by omega
       clear hq hres h IH h1 h2
       go_enter Tryz.func105,Tryz.ntmps105
       go_upto_region 9 with (first
        | (go_at_call 133;((with_reducible refine HS.out.mono ?_);rintro e w1 ⟨rfl,h1⟩;have HF1:=Lib.hid (Fr.of b h1);have HO1:=Lib.hid (popen_any (HP.out.below h1) hnx);clear h1))
        | (go_at_call 134;((with_reducible refine HO1.out.mono ?_);rintro e w2 ⟨h1,⟨h2, -⟩ | ⟨-,rfl,h3⟩⟩;exact absurd h2 hd;have HF2:=Lib.hid (HF1.out.trans h1);have HL:=Lib.hid (show Calls Tryz.prog 74 #[.pointer (some ⟨b,0,none⟩),.int .i64 4] w2 (Out (.ok (ns,a,r)) w2 b tv ts (deep+1) vs) from HI.out w2 h3);clear h1 h3))
        | (go_at_call 74;((with_reducible refine HL.out.mono ?_);intro e w5 ho;obtain ⟨hf,rfl,p5,nv5,us5,hp5,hu5,hk5,hps5⟩:=ho.good rfl;have HF5:=Lib.hid (HF2.out.trans hf);have HP5:=Lib.hid hps5;have HD5:=Lib.hid hp5;have HU5:=Lib.hid hu5;have HK5:=Lib.hid hk5;clear hf ho hp5 hu5 hk5 hps5)))
       have hz:=HF2.out.size
       obtain ⟨c0,c1,c2,c3⟩:=HP5.out.facts
       have f2:=HP5.out.frozen 2
       rw [show ((deep+1:Nat):Int)=(deep:Int)+1 from rfl] at c2
       clear c0 c1 c3
       go_upto_region 10 with (fail)
       have HP6:=Lib.hid (HP5.out.setD deep hnest)
       have HF6:=Lib.hid (HF5.out.setCell 2 (.int .i64 (deep:Int)))
       have HSZ:=Lib.hid (show (w5.setCell ⟨b,2,none⟩ (.int .i64 (deep:Int))).heap.size=w5.heap.size by simp)
       obtain ⟨hc1,hc2,hc3⟩:=count_at H1.out HD5.out HP5.out.lt
       have hfz5:=HF5.out.size
       clear c2 f2 HP5 HF5 HL
       generalize w5.setCell ⟨b,2,none⟩ (.int .i64 (deep:Int))=w6 at HP6 HF6 HSZ ⊢
       have hus5:us5.length=ns.length:=by rw [← HU5.out,List.length_map]
       have hlen5:(vs++us5).length=vs.length+us5.length:=List.length_append
       have HRT6:=Lib.hid (root_is HP6.out a (by omega))
       have hbl:=HP6.out.blt
       have hB7:Below w6.heap.size w6 (w6.alloc (.cells #[.int .i64 (a:Int)] 3)):=(Below.refl _ _).alloc (Nat.le_refl _) _
       have HP7:=Lib.hid (HP6.out.below hB7)
       have HF7:=Lib.hid (HF6.out.below hB7)
       have HA:=Lib.hid (show Calls Tryz.prog 135 #[.pointer (some ⟨b,0,none⟩),.agg #[.int .i64 8,.int .i64 0,.string ⟨#[]⟩,.string ⟨#[]⟩,.int .i64 0,.int .i64 0,.bool false,.bool false,.string ⟨#[]⟩,.int .i64 0,.int .i64 0,.bool false,.bool false,.slice (some ⟨w6.heap.size,0,none⟩) 1 1]] (w6.alloc (.cells #[.int .i64 (a:Int)] 3)) _ from add_any HP7.out ⟨{ Nd.zero with kind:=8,kids:=[(a:Int)] },some (w6.heap.size,1)⟩ (own_lit1 w6 (b+1) (a:Int) (by omega)) (by omega) (.slice (some ⟨w6.heap.size,0,none⟩) 1 1) rfl { Nd.zero with kind:=8,kids:=[(a:Int)] } rfl)
       clear hB7
       go_wp2_with (first
        | (go_at_call 136;((with_reducible refine HRT6.out.mono ?_);rintro e wn ⟨rfl,rfl⟩))
        | (go_at_call 135;((with_reducible refine HA.out.mono ?_);rintro e w8 ⟨h1,rfl,nv8,h3⟩;have HF8:=Lib.hid (HF7.out.trans h1);have HP8:=Lib.hid h3;clear h1 h3)))
       go_ret
       refine ⟨HF8.out,.inr ⟨_,_,_,HR.out,rfl,p5,nv8,us5++[⟨{ Nd.zero with kind:=8,kids:=[(a:Int)] },some (w6.heap.size,1)⟩],HD5.out, ?_, ?_,by rw [← List.append_assoc];exact HP8.out⟩⟩
       · rw [List.map_append,HU5.out];rfl
       · intro u hu j hj
         rcases List.mem_append.1 hu with hu | hu
         · exact Nat.le_trans hz (HK5.out u hu j hj)
         · rw [List.mem_singleton.1 hu] at hj
           have hj:some w6.heap.size=some j:=hj
           injection hj with hj
           have:=HSZ.out;omega
theorem ex_all:∀ F:Nat,EX F:=by
 intro F
 induction F using Nat.strongRecOn with
 | _ F ih =>
   intro n deep res w b tv ts p nv vs hn h hres
   match F,ih,hres with
   | 0,_,hres=>unfold exprP at hres;cases hres
   | f+1,ih,hres =>
   have IH:∀ g,g≤f→EX g:=fun g hg=>ih g (by omega)
   by_cases h3:n≤3
   · rw [exprP_succ,if_pos h3] at hres
     exact level_row b w _ (fun e w' ho=>ho.ret) n h3 fun w' hb=>(row_any f IH n h3 (h.below hb) res hres).mono fun e w'' ho=>Out.from (Fr.of b hb) ho
   · have e4:n=4:=by omega
     subst e4
     refine level_enter b 4 (by omega) w _ (fun e w' ho=>ho.ret) fun w' hb => ?_
     rw [lv4]
     exact (unary_any f IH (h.below hb) res hres).mono fun e w'' ho=>Out.from (Fr.of b hb) ho
def Ups:Nat→Nat→List Tk→Prop
 | p,q,[]=>p≤q
 | p,q,t :: ts=>∃ m:Nat,t.pos=(m:Int)∧p≤m∧m≤q∧Ups m q ts
theorem Ups.less {p p' q:Nat} (h:p'≤p):∀ {ts:List Tk},Ups p q ts→Ups p' q ts
 | [],k=>Nat.le_trans h k
 | _ :: _,⟨m,h1,h2,h3,h4⟩=>⟨m,h1,Nat.le_trans h h2,h3,h4⟩
theorem lexF_ups:∀ (f p:Nat) (l:List Int) (ts:List Tk),lexF f p l=some ts→Ups p (p+l.length) ts
 | f,p,[],ts,h=>by
   have h0:lexF f p []=some [Tk.zero.goto p]:=by unfold lexF;rfl
   rw [h0] at h;injection h with h;subst h
   exact ⟨p,rfl,Nat.le_refl _,by simp,by simp [Ups]⟩
 | 0,_,_ :: _,_,h=>by unfold lexF at h;cases h
 | f + 1,p,x :: l,ts,h=>by
   rw [lexF_cons] at h
   by_cases hx:x=32
   · rw [if_pos hx] at h
     have:=lexF_ups f (p+1) l ts h
     rw [show p+1+l.length=p+(x :: l).length by simp only [List.length_cons];omega] at this
     exact this.less (Nat.le_succ _)
   · rw [if_neg hx] at h
     cases hq:tokT (x :: l) with
     | none=>rw [hq] at h;cases h
     | some q =>
       obtain ⟨t0,n⟩:=q
       have hn:=tokT_le _ _ _ hq
       rw [hq] at h
       simp only [Option.map_eq_some_iff] at h
       obtain ⟨us,h1,rfl⟩:=h
       have:=lexF_ups f (p+n) ((x :: l).drop n) us h1
       rw [show p+n+((x :: l).drop n).length=p+(x :: l).length by rw [List.length_drop];omega] at this
       exact ⟨p,rfl,Nat.le_refl _,by omega,this.less (by omega)⟩
theorem lexL_ne (s:ByteArray) (ts:List Tk) (h:lexL (sb s)=some ts):ts≠[]:=by
 have key : ∀ (f p:Nat) (l:List Int) (ts:List Tk),lexF f p l=some ts→ts≠[]:=by
  intro f
  induction f with
  | zero =>
    intro p l ts h
    cases l with
    | nil => have h0:lexF 0 p []=some [Tk.zero.goto p]:=by unfold lexF;rfl
             rw [h0] at h;injection h with h;subst h;simp
    | cons x l=>unfold lexF at h;cases h
  | succ f ih =>
    intro p l ts h
    cases l with
    | nil => have h0:lexF (f+1) p []=some [Tk.zero.goto p]:=by unfold lexF;rfl
             rw [h0] at h;injection h with h;subst h;simp
    | cons x l =>
      rw [lexF_cons] at h
      by_cases hx:x=32
      · rw [if_pos hx] at h;exact ih _ _ _ h
      · rw [if_neg hx] at h
        split at h
        · cases h
        · simp only [Option.map_eq_some_iff] at h
          obtain ⟨us,_,rfl⟩:=h;simp
 exact key _ _ _ _ h
theorem lexL_len (s:ByteArray) (ts:List Tk) (h:lexL (sb s)=some ts):ts.length≤s.size+1:=by
 have key : ∀ (f p:Nat) (l:List Int) (ts:List Tk),lexF f p l=some ts→ts.length≤l.length+1:=by
  intro f
  induction f with
  | zero =>
    intro p l ts h
    cases l with
    | nil => have h0:lexF 0 p []=some [Tk.zero.goto p]:=by unfold lexF;rfl
             rw [h0] at h;injection h with h;subst h;simp
    | cons x l=>unfold lexF at h;cases h
  | succ f ih =>
    intro p l ts h
    cases l with
    | nil => have h0:lexF (f+1) p []=some [Tk.zero.goto p]:=by unfold lexF;rfl
             rw [h0] at h;injection h with h;subst h;simp
    | cons x l =>
      rw [lexF_cons] at h
      by_cases hx:x=32
      · rw [if_pos hx] at h;have:=ih _ _ _ h;simp only [List.length_cons];omega
      · rw [if_neg hx] at h
        cases hq:tokT (x :: l) with
        | none=>rw [hq] at h;cases h
        | some q =>
          obtain ⟨t0,n⟩:=q
          have hn:=tokT_le _ _ _ hq
          rw [hq] at h
          simp only [Option.map_eq_some_iff] at h
          obtain ⟨us,h1,rfl⟩:=h
          have:=ih _ _ _ h1
          rw [List.length_drop] at this
          simp only [List.length_cons] at this hn ⊢;omega
 have:=key _ _ _ _ h
 rw [length_sb] at this;exact this
theorem num_is (x:Int) (w:World):Calls Tryz.prog 15 #[.int .i64 x] w fun e w'=>e = .returned (.int .i64 x)∧w=w':=by
 go_enter Tryz.func15,Tryz.ntmps15
 go_wp2
 go_ret
 exact ⟨rfl,rfl⟩
theorem drew_below {w w':World} (h:Below w.heap.size w w') (n:Nat):Below w.heap.size w (w'.drewN n):=⟨h.os,h.tape,h.output,h.size,h.block⟩
theorem lex_over (s:ByteArray) (w:World) (hv:Vars w) (hs:300<s.size) :
 Calls Tryz.prog 73 #[.string s] w fun e w'=>Below w.heap.size w w'∧e = .returned (.tuple #[.slice none 0 0,.int .i64 4]):=by
 refine (lex_any s w hv).mono ?_
 rintro e w' ⟨hb,⟨_,rfl⟩ | ⟨h,_⟩ | ⟨h,_⟩⟩
 · exact ⟨hb,rfl⟩
 · omega
 · omega
theorem run_tok_kind (kd:Int) (l:Array Value) (hl:l[0]? = some (.int .i64 kd)) (w:World):Sem.run Tryz.prog (Instr.field 101 (.agg l) 0) w = .ok (.int .i64 kd) w:=by
 simp [Instr.field,run_underlying Tryz.underlying101,part,isAgg,run_underlying Tryz.underlying3,asAgg,hl,go_sem]
def PIs (s:ByteArray) (res:Except Int (List Nd)):Prop :=
 (300<s.size∧res = .error 4)∨(s.size≤300∧lexL (sb s)=none∧res = .error 5)∨(s.size≤300∧∃ ts f,lexL (sb s)=some ts∧parseP f ts=some res)
def Parsed (res:Except Int (List Nd)) (w:World) (e:Ending) (w':World):Prop :=
 Below w.heap.size w w'∧((∃ c,res = .error c∧e = .returned (.tuple #[.slice none 0 0,.int .i64 c])) ∨
  (∃ ns nv vs,res = .ok ns∧vs.map Nv.n=ns∧e = .returned (.tuple #[nv,.int .i64 0])∧NodV w' w.heap.size nv vs∧treeB ns=true))
theorem NodV.mono {w:World} {lo lo':Nat} {nv:Value} {vs:List Nv} (h:NodV w lo nv vs) (hl:lo'≤lo):NodV w lo' nv vs:=⟨h.1.mono hl,fun v hv=>(h.2 v hv).mono hl⟩
set_option maxRecDepth 100000 in
set_option maxHeartbeats 4000000 in
theorem parse_any (s:ByteArray) (w:World) (hv:Vars w) (ho:OpV w) (res:Except Int (List Nd)) (hp:PIs s res) :
 Calls Tryz.prog 56 #[.string s] w (Parsed res w):=by
 rcases hp with ⟨h1,rfl⟩ | ⟨h1,h2,rfl⟩ | ⟨h1,ts,f,h2,h3⟩
 · have HL:=Lib.hid (lex_over s w hv h1)
   clear hv ho h1
   go_enter Tryz.func56,Tryz.ntmps56
   go_wp2_with (go_at_call 73;((with_reducible refine HL.out.mono ?_);rintro e w1 ⟨hb,rfl⟩;have HB:=Lib.hid hb;clear hb))
   go_ret2
   exact ⟨HB.out,.inl ⟨4,rfl,rfl⟩⟩
 · have HL:=Lib.hid (lex_isnt s w hv h1 h2)
   clear hv ho h1 h2
   go_enter Tryz.func56,Tryz.ntmps56
   go_wp2_with (go_at_call 73;((with_reducible refine HL.out.mono ?_);rintro e w1 ⟨hb,rfl⟩;have HB:=Lib.hid hb;clear hb))
   go_ret2
   exact ⟨HB.out,.inl ⟨5,rfl,rfl⟩⟩
 · obtain ⟨hgood,hfit⟩:=lexL_good s ts h2
   have hlen:=lexL_len s ts h2
   have hne:=List.length_pos_iff.2 (lexL_ne s ts h2)
   have HL:=Lib.hid (lex_is s w hv h1 ts h2 hne)
   have hvl:=hv.lt
   have hol:=ho.lt
   have HOV:=Lib.hid ho
   have HFIT:=Lib.hid hfit
   have HTREE:=Lib.hid (fun ns (h:res = .ok ns)=>parse_tree (by rw [← h];exact h3) hgood)
   unfold parseP at h3
   have H3:=Lib.hid h3
   obtain ⟨nt,hnt⟩:∃ nt,ts.length=nt:=⟨_,rfl⟩
   have HNT:=Lib.hid hnt
   rw [hnt] at HL hlen hne
   clear hv ho h2 h3 hgood hfit hnt
   go_enter Tryz.func56,Tryz.ntmps56
   go_upto_region 5 with (go_at_call 73;((with_reducible refine HL.out.mono ?_);rintro e w1 ⟨hb,g1,cap1,rfl,hg0,hg1,ho⟩;have HO1:=Lib.hid ho;have HB:=Lib.hid hb;clear hb ho))
   have hB2:Below w1.heap.size w1 (w1.alloc (.cells #[.slice (some ⟨g1,0,none⟩) nt cap1,.int .i64 0,.int .i64 0,.slice none 0 0] 111)):=(Below.refl _ _).alloc (Nat.le_refl _) _
   have hC2:(w1.alloc (.cells #[.slice (some ⟨g1,0,none⟩) nt cap1,.int .i64 0,.int .i64 0,.slice none 0 0] 111)).heap[w1.heap.size]? = some (.cells #[.slice (some ⟨g1,0,none⟩) nt cap1,.int .i64 0,.int .i64 0,.slice none 0 0] 111):=(Go.MapKept.heap_alloc w1 _).1
   have HO2:=Lib.hid (HO1.out.below hB2 (Nat.le_refl _))
   have HOV2:=Lib.hid (HOV.out.below (HB.out.trans (hB2.mono HB.out.size)))
   have HZ1:=Lib.hid HB.out.size
   have HB2:=Lib.hid (HB.out.trans (hB2.mono HB.out.size))
   clear hB2 HB HL HO1 HOV
   generalize w1.alloc (.cells #[.slice (some ⟨g1,0,none⟩) nt cap1,.int .i64 0,.int .i64 0,.slice none 0 0] 111)=w2 at hC2 HO2 HOV2 HB2 ⊢
   obtain ⟨b,hb⟩:∃ b,w1.heap.size=b:=⟨_,rfl⟩
   rw [hb] at hC2 hg1 HZ1 ⊢
   have hz1:=HZ1.out
   have HP:=Lib.hid (show Ps w2 b (.slice (some ⟨g1,0,none⟩) nt cap1) ts 0 0 (.slice none 0 0) [] from
    ⟨hC2,⟨g1,cap1,by rw [HNT.out],hg1,HO2.out.mono (Nat.zero_le _)⟩,NodV.nil _ _,HOV2.out,by rw [HNT.out];exact hne,by omega,HFIT.out,by rw [HNT.out];omega,Nat.zero_le _,by omega⟩)
   clear hb hC2 HO2 HOV2 HFIT w1
   rcases bindR_some H3.out with ⟨c,g2,rfl⟩ | ⟨ns,a,r,g2,g3⟩
   · have HX:=Lib.hid (show Calls Tryz.prog 74 #[.pointer (some ⟨b,0,none⟩),.int .i64 0] w2 (Out (.error c) w2 b (.slice (some ⟨g1,0,none⟩) nt cap1) ts 0 []) from ex_all f 0 0 _ w2 b _ ts 0 _ [] (by omega) HP.out g2)
     clear g2 H3
     go_wp2_with (go_at_call 74;((with_reducible refine HX.out.mono ?_);intro e w5 ho;obtain ⟨hf,hc,rfl⟩:=ho.bad rfl;have HB5:=Lib.hid (HB2.out.trans (hf.toBelow hz1 HB2.out.size));have hc0:(c != 0)=true:=(by rw [bne_iff_ne];rcases hc with h | h <;> omega);clear hf hc ho))
     go_ret2
     exact ⟨HB5.out,.inl ⟨c,rfl,rfl⟩⟩
   · have HX:=Lib.hid (show Calls Tryz.prog 74 #[.pointer (some ⟨b,0,none⟩),.int .i64 0] w2 (Out (.ok (ns,a,r)) w2 b (.slice (some ⟨g1,0,none⟩) nt cap1) ts 0 []) from ex_all f 0 0 _ w2 b _ ts 0 _ [] (by omega) HP.out g2)
     have hns:=((told_all f).1 _ _ _ _ _ _ _ g2).2.2
     have H4:=Lib.hid g3
     clear g2 g3 H3
     go_upto_region 8 with (go_at_call 74;((with_reducible refine HX.out.mono ?_);intro e w5 ho;obtain ⟨hf,rfl,p5,nv5,us5,hp5,hu5,hk5,hps5⟩:=ho.good rfl;have HB5:=Lib.hid (HB2.out.trans (hf.toBelow hz1 HB2.out.size));have HP5:=Lib.hid hps5;have HD5:=Lib.hid hp5;have HU5:=Lib.hid hu5;clear hf ho hp5 hu5 hk5 hps5))
     obtain ⟨gt,ct,t, -,ht,hd, -⟩:=HP5.out.tok
     have h4:=H4.out
     rw [← HD5.out,hd] at h4
     have HTK:=Lib.hid (ptoken_any HP5.out t ht)
     obtain ⟨g5,cap5,rfl, -⟩:=Own.some HP5.out.nodes.1 (show 0<([]++us5).length by rw [List.nil_append, ← List.length_map (f:=Nv.n),HU5.out];omega)
     obtain ⟨kd,hkd⟩:∃ kd,t.kind=kd:=⟨_,rfl⟩
     rw [hkd] at HTK
     clear HX ht hd H4
     by_cases h0:t.kind=0
     · rw [show kindAt (t :: ts.drop (p5+1))=t.kind from rfl,if_pos h0] at h4
       injection h4 with h4
       have HR:=Lib.hid h4.symm
       have e0:(kd != 0)=false:=by rw [← hkd,h0];rfl
       clear h4 h0 hkd
       go_wp2_with (go_at_call 75;((with_reducible refine HTK.out.mono ?_);rintro e w6 ⟨rfl,h1⟩;have HB6:=Lib.hid (HB5.out.trans (h1.mono HB5.out.size));have HP6:=Lib.hid (HP5.out.below h1);obtain ⟨c0,c1,c2,c3⟩:=HP6.out.facts;have hfd:=run_tok_kind kd #[.int .i64 kd,.string t.text,.int .i64 t.num,.string t.sh,.int .i64 t.c,.int .i64 t.r,.bool t.ac,.bool t.ar,.int .i64 t.pos] rfl w6;clear h1))
       go_ret2
       exact ⟨HB6.out,.inr ⟨ns,_,[]++us5,HR.out,by rw [List.nil_append];exact HU5.out,rfl,HP6.out.nodes.mono (by omega),HTREE.out ns HR.out⟩⟩
     · rw [show kindAt (t :: ts.drop (p5+1))=t.kind from rfl,if_neg h0] at h4
       injection h4 with h4
       have HR:=Lib.hid h4.symm
       have e0:(kd != 0)=true:=by rw [bne_iff_ne, ← hkd];exact h0
       clear h4 h0 hkd
       go_wp2_with (go_at_call 75;((with_reducible refine HTK.out.mono ?_);rintro e w6 ⟨rfl,h1⟩;have HB6:=Lib.hid (HB5.out.trans (h1.mono HB5.out.size));have hfd:=run_tok_kind kd #[.int .i64 kd,.string t.text,.int .i64 t.num,.string t.sh,.int .i64 t.c,.int .i64 t.r,.bool t.ac,.bool t.ar,.int .i64 t.pos] rfl w6;clear h1))
       go_ret2
       exact ⟨HB6.out,.inl ⟨5,HR.out,rfl⟩⟩
theorem parse_ok (s:ByteArray) (w:World) (hv:Vars w) (ho:OpV w) (ns:List Nd) (hp:PIs s (.ok ns)) (hne:0<ns.length) :
 Calls Tryz.prog 56 #[.string s] w fun e w'=>Below w.heap.size w w'∧∃ g cap vs,e = .returned (.tuple #[.slice (some ⟨g,0,none⟩) ns.length cap,.int .i64 0])∧vs.map Nv.n=ns∧vs.length=ns.length∧NodV w' w.heap.size (.slice (some ⟨g,0,none⟩) ns.length cap) vs∧treeB ns=true:=by
 refine (parse_any s w hv ho _ hp).mono ?_
 rintro e w' ⟨hb,⟨c',h1,h2⟩ | ⟨ns',nv,vs,h1,h2,h3,h4,h5⟩⟩
 · cases h1
 · injection h1 with h1;subst h1
   have hl:vs.length=ns.length:=by rw [← h2,List.length_map]
   obtain ⟨g,cap,rfl, -⟩:=Own.some h4.1 (by omega)
   rw [hl] at h3 h4
   exact ⟨hb,g,cap,vs,h3,h2,hl,h4,h5⟩
theorem NodV.cell {w:World} {lo g n cap:Nat} {vs:List Nv} (h:NodV w lo (.slice (some ⟨g,0,none⟩) n cap) vs) (i:Nat) (v:Nv) (hi:vs[i]? = some v) (j:Nat) (hj:j<14):w.cell? ⟨g,i*14+j,none⟩=(nodA v.n v.kv).toList[j]? := by
 have hl:(nodA v.n v.kv).toList.length=14:=rfl
 have hu:(encNv.f v)[j]? = some ((nodA v.n v.kv).toList[j]'(by omega)):=List.getElem?_eq_getElem _
 have:=Own.cells h.1 (i*14+j) _ (by rw [encNv.at vs i j v hi hj];exact hu)
 rw [this];exact hu.symm
set_option maxRecDepth 100000 in
set_option maxHeartbeats 400000 in
theorem may_any (s:ByteArray) (c r:Int) (ac ar:Bool) (w:World) (_hs:s.size≤1000000) :
 Calls Tryz.prog 181 #[.agg #[.string s,.int .i64 c,.int .i64 r,.bool ac,.bool ar]] w fun e w'=>e = .returned (.bool (mayL (sb s) c r))∧Below w.heap.size w w':=by
 by_cases h0:s.size=0
 · have:=sb_nil s h0
   subst this
   have hm:mayL (sb ⟨#[]⟩) c r=decide (0≤c∧c≤701∧0≤r∧r≤998):=by unfold mayL;rw [show decide (sb ⟨#[]⟩=[])=true from by decide,Bool.true_or,Bool.true_and]
   have HM:=Lib.hid hm;clear hm
   go_enter Tryz.func181,Tryz.ntmps181
   go_wp2
   all_goals go_ret
   all_goals exact ⟨ret_bool (by rw [HM.out];first | (symm;rw [decide_eq_true_iff];omega) | (symm;rw [decide_eq_false_iff_not];omega) | (rw [decide_eq_decide];omega)),(Below.refl _ _).alloc (Nat.le_refl _) _⟩
 · have hne:=text_ne0 s h0
   have hne2:s.toList.isEmpty=false:=by cases hq:s.toList with | nil=>exact absurd hq hne | cons a l=>rfl
   have hm:mayL (sb s) c r=(nameL (sb s)&&decide (0≤c∧c≤701∧0≤r∧r≤998)):=by
    unfold mayL;rw [decide_eq_false (by intro h;have:=length_sb s;rw [h] at this;exact h0 this.symm),Bool.false_or]
   have HM:=Lib.hid hm;clear hm h0
   by_cases hn:nameL (sb s)=true
   · go_enter Tryz.func181,Tryz.ntmps181
     go_wp2_with (first
      | (go_at_call 47;((with_reducible refine (name_any _ _ ?_).mono ?_);(first | omega | skip);rintro e w' ⟨rfl,rfl⟩)))
     all_goals go_ret
     all_goals exact ⟨ret_bool (by rw [HM.out,hn,Bool.true_and];first | (symm;rw [decide_eq_true_iff];omega) | (symm;rw [decide_eq_false_iff_not];omega) | (rw [decide_eq_decide];omega)),(Below.refl _ _).alloc (Nat.le_refl _) _⟩
   · have hn':nameL (sb s)=false:=by simpa using hn
     clear hn
     go_enter Tryz.func181,Tryz.ntmps181
     go_wp2_with (first
      | (go_at_call 47;((with_reducible refine (name_any _ _ ?_).mono ?_);(first | omega | skip);rintro e w' ⟨rfl,rfl⟩)))
     all_goals go_ret
     all_goals exact ⟨ret_bool (by rw [HM.out,hn',Bool.false_and]),(Below.refl _ _).alloc (Nat.le_refl _) _⟩
theorem name_lex (s:ByteArray) (h:calledL (sb s)=true) (hr:readS s=none):∃ t ts,lexL (sb s)=some (t :: ts)∧t.kind=3∧t.text=s:=by
 have hc:=h
 unfold calledL at hc
 rw [Bool.and_eq_true,Bool.and_eq_true,decide_eq_true_iff,decide_eq_true_iff] at hc
 obtain ⟨c1,c2,c3⟩:=hc
 have hs:=str_sb s
 cases hq:sb s with
 | nil=>rw [hq] at c2;simp at c2
 | cons x l =>
   rw [hq] at c1 c3 hs h
   have hall:∀ y∈x :: l,isWord y=true:=by
    intro y hy
    have:=c1 y hy
    rw [Bool.or_eq_true] at this
    rcases this with g | g
    · rw [isWord_beg,isBeg_cap g];rfl
    · rw [isWord_beg,g];simp
   have hx:isCap x=true:=by simpa using c3
   have hxr:65≤x∧x≤90:=by unfold isCap at hx;rw [decide_eq_true_iff] at hx;omega
   have h1:¬ isNum x=true:=by unfold isNum;rw [decide_eq_true_iff];omega
   have hl:isLet x=true:=by unfold isLet;rw [decide_eq_true_iff];omega
   have ht:(x :: l).takeWhile isWord=x :: l:=by
    have:=take_part isWord (x :: l) [] hall (fun y hy=>by simp at hy)
    rw [List.append_nil] at this;exact this
   have htok:tokT (x :: l)=some ({ Tk.zero with kind:=3,text:=s },(x :: l).length):=by
    rw [tokT_cons,if_neg h1,if_neg (by omega),if_neg (by omega),if_pos (.inl hl)]
    unfold wordT
    rw [ht,hs,hr]
    simp only
    rw [if_pos h]
   refine ⟨({ Tk.zero with kind:=3,text:=s }:Tk).goto 0,[Tk.zero.goto (0+(x :: l).length)], ?_,rfl,rfl⟩
   unfold lexL
   rw [List.length_cons,lexF_cons,if_neg (by omega),htok]
   simp only
   rw [List.drop_length]
   have:lexF l.length (0+(x :: l).length) []=some [Tk.zero.goto (0+(x :: l).length)]:=by unfold lexF;rfl
   rw [this];rfl
theorem callB_eq (s:ByteArray):callB s=((calledL (sb s)&&(readS s).isNone)&&(decide (¬ s=⟨#[84,82,85,69]⟩)&&decide (¬ s=⟨#[70,65,76,83,69]⟩))):=by unfold callB;rw [Bool.and_assoc]
theorem callB_bad (s:ByteArray) (h:∀ t ts,lexL (sb s)=some (t :: ts)→¬ (t.kind=3∧t.text=s)):callB s=false:=by
 rw [callB_eq]
 cases hc:calledL (sb s)
 · rfl
 · cases hr:readS s with
   | some d=>rfl
   | none =>
     obtain ⟨t,ts,h1,h2,h3⟩:=name_lex s hc hr
     exact absurd ⟨h2,h3⟩ (h t ts h1)
theorem callB_big (s:ByteArray) (h:12<s.size):callB s=false:=by
 rw [callB_eq]
 have:calledL (sb s)=false:=by
  unfold calledL
  rw [decide_eq_false (show ¬ (1≤(sb s).length∧(sb s).length≤12) by rw [length_sb];omega),Bool.false_and,Bool.and_false]
 rw [this];rfl
set_option maxRecDepth 100000 in
set_option maxHeartbeats 2000000 in
theorem isName5_any (s:ByteArray) (w:World) (hv:Vars w):Calls Tryz.prog 182 #[.string s] w fun e w'=>e = .returned (.bool (callB s))∧Below w.heap.size w w':=by
 have bad:∀ c:Int,(c != 0)=true→callB s=false→(Calls Tryz.prog 73 #[.string s] w fun e w'=>Below w.heap.size w w'∧e = .returned (.tuple #[.slice none 0 0,.int .i64 c])) →
  Calls Tryz.prog 182 #[.string s] w fun e w'=>e = .returned (.bool (callB s))∧Below w.heap.size w w':=by
  intro c hc hb hl
  have HL:=Lib.hid hl;have HB0:=Lib.hid hb
  have hc2:(c == 0)=false:=by rw [beq_eq_false_iff_ne];exact bne_iff_ne.1 hc
  clear hl hb
  go_enter Tryz.func182,Tryz.ntmps182
  go_wp2_with (go_at_call 73;((with_reducible refine HL.out.mono ?_);rintro e w1 ⟨hb,rfl⟩;have HB:=Lib.hid hb;clear hb))
  go_ret
  exact ⟨by rw [HB0.out] <;> rfl,HB.out⟩
 by_cases hbig:300<s.size
 · exact bad 4 rfl (callB_big s (by omega)) (lex_over s w hv hbig)
 · cases hl : lexL (sb s) with
   | none=>exact bad 5 rfl (callB_bad s (fun t ts h=>by rw [hl] at h;cases h)) (lex_isnt s w hv (by omega) hl)
   | some ts =>
     have hne:=lexL_ne s ts hl
     obtain ⟨hgood,_⟩:=lexL_good s ts hl
     match ts,hne,hl,hgood with
     | t :: tl,_,hl,hgood =>
     have HX:=Lib.hid (lex_is s w hv (by omega) (t :: tl) hl (by simp))
     have hg:=hgood t (by simp)
     obtain ⟨kd,hkd⟩:∃ kd,t.kind=kd:=⟨_,rfl⟩
     obtain ⟨tx,htx⟩:∃ tx,t.text=tx:=⟨_,rfl⟩
     have HC:=Lib.hid (fun h=>callB_bad s (fun t' ts' h'=>by rw [hl] at h';injection h' with h';injection h' with h1 h2;subst h1;exact h))
     have HG:=Lib.hid (show kd=3→tx=s→callB s=(decide (¬ s=⟨#[84,82,85,69]⟩)&&decide (¬ s=⟨#[70,65,76,83,69]⟩)) from by
      intro h1 h2
      obtain ⟨g1,g2⟩:=hg.name (by rw [hkd,h1])
      rw [htx,h2] at g1 g2
      rw [callB_eq,g1,g2];rfl)
     have HK:=Lib.hid hkd;have HT:=Lib.hid htx
     obtain ⟨n,hn⟩:∃ n,(t :: tl).length=n:=⟨_,rfl⟩
     have hn1:0<n:=by rw [← hn];simp
     rw [hn] at HX
     have q1:=word_eq s ⟨#[84,82,85,69]⟩
     have q2:=word_eq s ⟨#[70,65,76,83,69]⟩
     rw [list_true] at q1
     rw [list_false] at q2
     clear hl hgood hg hkd htx hn hne bad
     go_enter Tryz.func182,Tryz.ntmps182
     go_upto_region 2 with (go_at_call 73;((with_reducible refine HX.out.mono ?_);rintro e w1 ⟨hb,g,cap,rfl,hg0,hg1,ho⟩;have HB:=Lib.hid hb;have k0:w1.cell? ⟨g,0,none⟩=some (.int .i64 kd):=((OwnT.cell ho 0 t rfl 0 (by omega)).trans (by show some (Value.int .i64 t.kind)=_;rw [HK.out]));have k1:w1.cell? ⟨g,1,none⟩=some (.string tx):=((OwnT.cell ho 0 t rfl 1 (by omega)).trans (by show some (Value.string t.text)=_;rw [HT.out]));clear hb ho))
     have hni:(0:Int)<(n:Int):=by omega
     by_cases h3:kd=3
     · have e3:(kd == 3)=true:=beq_iff_eq.2 h3
       by_cases hs:tx=s
       · have HR:=Lib.hid (HG.out h3 hs)
         have q3:(tx.toList == s.toList)=true:=by rw [hs];simp
         clear h3 hs HC HG HK HT HX
         by_cases h1:s=⟨#[84,82,85,69]⟩
         · rw [decide_eq_true h1] at q1
           rw [decide_eq_false (show ¬ ¬ s=⟨#[84,82,85,69]⟩ from fun h=>h h1),Bool.false_and] at HR
           have q1n:(s.toList != [84,82,85,69])=false:=by rw [bne,q1];rfl
           clear h1
           go_wp2_with fail
           go_ret
           exact ⟨by rw [HR.out] <;> rfl,HB.out⟩
         · rw [decide_eq_false h1] at q1
           rw [decide_eq_true h1,Bool.true_and] at HR
           have q1n:(s.toList != [84,82,85,69])=true:=by rw [bne,q1];rfl
           clear h1
           by_cases h2:s=⟨#[70,65,76,83,69]⟩
           · rw [decide_eq_true h2] at q2
             rw [decide_eq_false (show ¬ ¬ s=⟨#[70,65,76,83,69]⟩ from fun h=>h h2)] at HR
             have q2n:(s.toList != [70,65,76,83,69])=false:=by rw [bne,q2];rfl
             clear h2
             go_wp2_with fail
             go_ret
             exact ⟨by rw [HR.out] <;> rfl,HB.out⟩
           · rw [decide_eq_false h2] at q2
             rw [decide_eq_true h2] at HR
             have q2n:(s.toList != [70,65,76,83,69])=true:=by rw [bne,q2];rfl
             clear h2
             go_wp2_with fail
             go_ret
             exact ⟨by rw [HR.out] <;> rfl,HB.out⟩
       · have HR:=Lib.hid (HC.out (fun h=>hs (by rw [← HT.out];exact h.2)))
         have q3:(tx.toList == s.toList)=false:=beq_eq_false_iff_ne.2 (text_ne _ _ hs)
         clear h3 hs HC HG HK HT HX
         go_wp2_with fail
         go_ret
         exact ⟨by rw [HR.out] <;> rfl,HB.out⟩
     · have HR:=Lib.hid (HC.out (fun h=>h3 (by rw [← HK.out];exact h.1)))
       have e3:(kd == 3)=false:=beq_eq_false_iff_ne.2 h3
       clear h3 HC HG HK HT HX
       go_wp2_with fail
       go_ret
       exact ⟨by rw [HR.out] <;> rfl,HB.out⟩
theorem printB_bad (s:ByteArray) (k:Nat) (h:k<s.size) (hx:((s[k].toNat:Nat):Int)<32):printB (sb s)=false:=by
 unfold printB;rw [decide_eq_false_iff_not];intro hall
 exact hall _ (List.mem_of_getElem? (sb_at s k h)) hx
theorem printB_all (s:ByteArray) (h:∀ (j:Nat) (hj:j<s.size),¬ ((s[j].toNat:Nat):Int)<32):printB (sb s)=true:=by
 unfold printB;rw [decide_eq_true_iff]
 intro x hx
 obtain ⟨j,hj,rfl⟩:=List.mem_iff_getElem.1 hx
 rw [length_sb] at hj
 have:=sb_at s j hj
 rw [List.getElem?_eq_getElem (by rw [length_sb];exact hj)] at this
 rw [Option.some.inj this];exact h j hj
set_option maxRecDepth 100000 in
set_option maxHeartbeats 800000 in
theorem isText_any (s:ByteArray) (w:World) (_hs:s.size≤1000000):Calls Tryz.prog 180 #[.string s] w fun e w'=>e = .returned (.bool (printB (sb s)))∧w=w':=by
 go_enter Tryz.func180,Tryz.ntmps180
 go_wp2_with fail
 go_loopw [6] (fun i wr=>∃ k:Nat,k≤s.size∧i = .int .i64 k∧Hid (∀ (j:Nat) (hj:j<s.size),j<k→¬ ((s[j].toNat:Nat):Int)<32)∧w=wr)
  (fun i _=>s.size - (intOf i).toNat)
 case atStart=>exact ⟨0,by omega,rfl,Lib.hid (by intro j _ hj;omega),rfl⟩
 case round =>
  obtain ⟨k,hk,rfl,HG,rfl⟩:=hrel
  by_cases hlt:k<s.size
  · have hki:(k:Int)<(s.size:Int):=by omega
    obtain ⟨a,ha⟩:∃ a:Int,(s[k].toNat:Int)=a:=⟨_,rfl⟩
    have ha1:0≤a∧a≤255:=by have:=s[k].toNat_lt;omega
    have HA:=Lib.hid ha
    by_cases h32:a<32
    · have HB:=Lib.hid (printB_bad s k hlt (by rw [ha];exact h32))
      go_wp2_with fail
      go_ret
      exact ⟨by rw [HB.out] <;> rfl,rfl⟩
    · go_wp2_with fail
      go_roundw
      case rel =>
       refine ⟨k+1,by omega,by go_num,Lib.hid ?_,by first | rfl | trivial⟩
       intro j hj hjk
       by_cases e:j=k
       · subst e;rw [HA.out];exact h32
       · exact HG.out j hj (by omega)
      case measure=>simp [intOf];omega
  · have hki:¬ (k:Int)<(s.size:Int):=by omega
    have HB:=Lib.hid (printB_all s (fun j hj=>HG.out j hj (by omega)))
    go_wp2_with fail
    go_ret
    exact ⟨by rw [HB.out] <;> rfl,rfl⟩
def twoB (k:Int):Bool:=decide (9≤k∧k≤19)
set_option maxHeartbeats 400000 in
theorem isOfTwo_any (k:Int) (w:World):Calls Tryz.prog 183 #[.int .i64 k] w fun e w'=>e = .returned (.bool (twoB k))∧w=w':=by
 go_enter Tryz.func183,Tryz.ntmps183
 by_cases h1:9≤k
 · by_cases h2:k≤19
   · go_wp2
     go_ret
     exact ⟨ret_bool (by unfold twoB;symm;rw [decide_eq_true_iff];exact ⟨h1,h2⟩),rfl⟩
   · go_wp2
     go_ret
     exact ⟨ret_bool (by unfold twoB;symm;rw [decide_eq_false_iff_not];omega),rfl⟩
 · go_wp2
   go_ret
   exact ⟨ret_bool (by unfold twoB;symm;rw [decide_eq_false_iff_not];omega),rfl⟩
def hkB (kind:Int) (m:Nat):Bool:=if kind=7 then true else if kind=8 then decide (m=1) else if twoB kind=true then decide (m=2) else decide (m=0)
set_option maxRecDepth 100000 in
set_option maxHeartbeats 1600000 in
theorem hasKids_any (n:Nd) (A:Option Addr) (m c:Nat) (hm:m≤maxLen) (w:World):Calls Tryz.prog 142 #[.agg #[.int .i64 n.kind,.int .i64 n.num,.string n.text,.string n.ref.sh,.int .i64 n.ref.c,.int .i64 n.ref.r,.bool n.ref.ac,.bool n.ref.ar,.string n.to.sh,.int .i64 n.to.c,.int .i64 n.to.r,.bool n.to.ac,.bool n.to.ar,.slice A m c]] w fun e w'=>e = .returned (.bool (hkB n.kind m))∧Below w.heap.size w w':=by
 have hx:NdAt (w.alloc (.cells #[.int .i64 n.kind,.int .i64 n.num,.string n.text,.string n.ref.sh,.int .i64 n.ref.c,.int .i64 n.ref.r,.bool n.ref.ac,.bool n.ref.ar,.string n.to.sh,.int .i64 n.to.c,.int .i64 n.to.r,.bool n.to.ac,.bool n.to.ar,.slice A m c] 140)) w.heap.size n (.slice A m c):=NdAt.new w n _
 have HB:=Lib.hid ((Below.refl w.heap.size w).alloc (Nat.le_refl _) (.cells #[.int .i64 n.kind,.int .i64 n.num,.string n.text,.string n.ref.sh,.int .i64 n.ref.c,.int .i64 n.ref.r,.bool n.ref.ac,.bool n.ref.ar,.string n.to.sh,.int .i64 n.to.c,.int .i64 n.to.r,.bool n.to.ac,.bool n.to.ar,.slice A m c] 140))
 go_enter Tryz.func142,Tryz.ntmps142
 go_upto_region 1 with (fail)
 generalize w.alloc (.cells #[.int .i64 n.kind,.int .i64 n.num,.string n.text,.string n.ref.sh,.int .i64 n.ref.c,.int .i64 n.ref.r,.bool n.ref.ac,.bool n.ref.ar,.string n.to.sh,.int .i64 n.to.c,.int .i64 n.to.r,.bool n.to.ac,.bool n.to.ar,.slice A m c] 140)=w1 at hx HB ⊢
 obtain ⟨x0,x1,x2,x3,x4,x5,x6,x7,x8,x9,x10,x11,x12,x13⟩:=hx.cells
 clear hx
 obtain ⟨kd,hkd⟩:∃ kd,n.kind=kd:=⟨_,rfl⟩
 rw [hkd] at x0
 have HKD:=Lib.hid hkd;clear hkd
 by_cases h7:kd=7
 · have e7:(kd == 7)=true:=beq_iff_eq.2 h7
   have HR:=Lib.hid (show hkB kd m=true by unfold hkB;rw [if_pos h7])
   clear h7
   go_wp2_with fail
   go_ret
   exact ⟨by rw [HKD.out,HR.out] <;> rfl,HB.out⟩
 have e7:(kd == 7)=false:=beq_eq_false_iff_ne.2 h7
 by_cases h8:kd=8
 · have e8:(kd == 8)=true:=beq_iff_eq.2 h8
   have HR:=Lib.hid (show hkB kd m=decide (m=1) by unfold hkB;rw [if_neg h7,if_pos h8])
   clear h7 h8
   by_cases hm1:m=1
   · subst hm1
     go_wp2_with fail
     go_ret
     exact ⟨by rw [HKD.out,HR.out] <;> rfl,HB.out⟩
   · have em:((m:Int) == 1)=false:=by rw [beq_eq_false_iff_ne];omega
     rw [decide_eq_false hm1] at HR
     go_wp2_with fail
     go_ret
     exact ⟨by rw [HKD.out,HR.out];first | rfl | (simp;omega),HB.out⟩
 have e8:(kd == 8)=false:=beq_eq_false_iff_ne.2 h8
 cases ht:twoB kd
 · have HR:=Lib.hid (show hkB kd m=decide (m=0) by unfold hkB;rw [if_neg h7,if_neg h8,ht,if_neg (by decide)])
   have HT:=isOfTwo_any kd
   rw [ht] at HT
   have HT:=Lib.hid HT
   clear h7 h8 ht
   by_cases hm1:m=0
   · subst hm1
     go_wp2_with (go_at_call 183;((with_reducible refine (HT.out _).mono ?_);rintro e w2 ⟨rfl,rfl⟩))
     go_ret
     exact ⟨by rw [HKD.out,HR.out] <;> rfl,HB.out⟩
   · have em:((m:Int) == 0)=false:=by rw [beq_eq_false_iff_ne];omega
     rw [decide_eq_false hm1] at HR
     go_wp2_with (go_at_call 183;((with_reducible refine (HT.out _).mono ?_);rintro e w2 ⟨rfl,rfl⟩))
     go_ret
     exact ⟨by rw [HKD.out,HR.out];first | rfl | (simp;omega),HB.out⟩
 · have HR:=Lib.hid (show hkB kd m=decide (m=2) by unfold hkB;rw [if_neg h7,if_neg h8,ht,if_pos rfl])
   have HT:=isOfTwo_any kd
   rw [ht] at HT
   have HT:=Lib.hid HT
   clear h7 h8 ht
   by_cases hm1:m=2
   · subst hm1
     go_wp2_with (go_at_call 183;((with_reducible refine (HT.out _).mono ?_);rintro e w2 ⟨rfl,rfl⟩))
     go_ret
     exact ⟨by rw [HKD.out,HR.out] <;> rfl,HB.out⟩
   · have em:((m:Int) == 2)=false:=by rw [beq_eq_false_iff_ne];omega
     rw [decide_eq_false hm1] at HR
     go_wp2_with (go_at_call 183;((with_reducible refine (HT.out _).mono ?_);rintro e w2 ⟨rfl,rfl⟩))
     go_ret
     exact ⟨by rw [HKD.out,HR.out];first | rfl | (simp;omega),HB.out⟩
def namedN (n:Nd):Nd :=
 if n.kind=1 then { Nd.zero with num:=n.num } else if n.kind=2 then { Nd.zero with text:=n.text } else if n.kind=3 then { Nd.zero with num:=n.num }
 else if n.kind=5 then { Nd.zero with ref:=n.ref } else if n.kind=6 then ⟨0,0,⟨#[]⟩,n.ref,n.to,[]⟩ else if n.kind=7 then { Nd.zero with text:=n.text } else Nd.zero
def okF (n:Nd):Bool :=
 if n.kind=1 then decide (0≤n.num) else if n.kind=2 then printB (sb n.text) else if n.kind=3 then decide (n.num=0∨n.num=1)
 else if n.kind=5 then mayRf n.ref else if n.kind=6 then mayRf n.ref&&(mayRf n.to&&spanB n.ref n.to) else if n.kind=7 then callB n.text else decide (n.kind=4∨n.kind=8)||twoB n.kind
theorem res_fields:Tryz.f141.results=#[.cell 2 140,.tmp 3]:=by kernel_rfl
theorem NdAt.load {w:World} {b:Nat} {n:Nd} {k:Value} (h:NdAt w b n k):(loadVar 140 ⟨b,0,none⟩).run Tryz.prog w = .ok (.agg (nodA n k)) w :=
 run_loadVar_row w b 140 140 _ _ _ h Tryz.underlying140 rfl nod_size
theorem out_nod {w:World} {b:Nat} {n:Nd} {k:Value} (h:NdAt w b n k) (fn:Func) (tmps:Array Value) (ok:Bool) (p u:Tmp) (hf:fn.results=#[.cell p 140,.tmp u]) (hp:tmps.getD p undef = .pointer (some ⟨b,0,none⟩)) (hu:tmps.getD u undef = .bool ok) :
 (results fn tmps).run Tryz.prog w = .ok (.tuple #[.agg (nodA n k),.bool ok]) w:=by
 rw [results_cell_tmp hf,hp,hu]
 simp [asAddr,h.load,Result.andThen]
abbrev zNod:Array Value:=#[.int .i64 0,.int .i64 0,.string ⟨#[]⟩,.string ⟨#[]⟩,.int .i64 0,.int .i64 0,.bool false,.bool false,.string ⟨#[]⟩,.int .i64 0,.int .i64 0,.bool false,.bool false,.slice none 0 0]
theorem NdAt.drew {w:World} {b:Nat} {n:Nd} {k:Value} (h:NdAt w b n k):NdAt w.drew b n k:=h
theorem NdAt.frozen {w:World} {b:Nat} {n:Nd} {k:Value} (h:NdAt w b n k) (j:Nat):w.frozen? ⟨b,j,none⟩=false:=frozen_of_row w b j _ _ h
theorem row14 (w:World) (b:Nat) (t:TypeId) (u0 u1 u2 u3 u4 u5 u6 u7 u8 u9 u10 u11 u12 u13 v0 v1 v2 v3 v4 v5 v6 v7 v8 v9 v10 v11 v12 v13:Value) (h:w.heap[b]? = some (.cells #[u0,u1,u2,u3,u4,u5,u6,u7,u8,u9,u10,u11,u12,u13] t)) :
 ((((((((((((((w.setCell ⟨b,0,none⟩ v0).setCell ⟨b,1,none⟩ v1).setCell ⟨b,2,none⟩ v2).setCell ⟨b,3,none⟩ v3).setCell ⟨b,4,none⟩ v4).setCell ⟨b,5,none⟩ v5).setCell ⟨b,6,none⟩ v6).setCell ⟨b,7,none⟩ v7).setCell ⟨b,8,none⟩ v8).setCell ⟨b,9,none⟩ v9).setCell ⟨b,10,none⟩ v10).setCell ⟨b,11,none⟩ v11).setCell ⟨b,12,none⟩ v12).setCell ⟨b,13,none⟩ v13).heap[b]? = some (.cells #[v0,v1,v2,v3,v4,v5,v6,v7,v8,v9,v10,v11,v12,v13] t):=by
 have h0:(w.setCell ⟨b,0,none⟩ v0).heap[b]? = some (.cells #[v0,u1,u2,u3,u4,u5,u6,u7,u8,u9,u10,u11,u12,u13] t):=by rw [heap_setCell_same _ b 0 _ _ _ h];rfl
 have h1:((w.setCell ⟨b,0,none⟩ v0).setCell ⟨b,1,none⟩ v1).heap[b]? = some (.cells #[v0,v1,u2,u3,u4,u5,u6,u7,u8,u9,u10,u11,u12,u13] t):=by rw [heap_setCell_same _ b 1 _ _ _ h0];rfl
 have h2:(((w.setCell ⟨b,0,none⟩ v0).setCell ⟨b,1,none⟩ v1).setCell ⟨b,2,none⟩ v2).heap[b]? = some (.cells #[v0,v1,v2,u3,u4,u5,u6,u7,u8,u9,u10,u11,u12,u13] t):=by rw [heap_setCell_same _ b 2 _ _ _ h1];rfl
 have h3:((((w.setCell ⟨b,0,none⟩ v0).setCell ⟨b,1,none⟩ v1).setCell ⟨b,2,none⟩ v2).setCell ⟨b,3,none⟩ v3).heap[b]? = some (.cells #[v0,v1,v2,v3,u4,u5,u6,u7,u8,u9,u10,u11,u12,u13] t):=by rw [heap_setCell_same _ b 3 _ _ _ h2];rfl
 have h4:(((((w.setCell ⟨b,0,none⟩ v0).setCell ⟨b,1,none⟩ v1).setCell ⟨b,2,none⟩ v2).setCell ⟨b,3,none⟩ v3).setCell ⟨b,4,none⟩ v4).heap[b]? = some (.cells #[v0,v1,v2,v3,v4,u5,u6,u7,u8,u9,u10,u11,u12,u13] t):=by rw [heap_setCell_same _ b 4 _ _ _ h3];rfl
 have h5:((((((w.setCell ⟨b,0,none⟩ v0).setCell ⟨b,1,none⟩ v1).setCell ⟨b,2,none⟩ v2).setCell ⟨b,3,none⟩ v3).setCell ⟨b,4,none⟩ v4).setCell ⟨b,5,none⟩ v5).heap[b]? = some (.cells #[v0,v1,v2,v3,v4,v5,u6,u7,u8,u9,u10,u11,u12,u13] t):=by rw [heap_setCell_same _ b 5 _ _ _ h4];rfl
 have h6:(((((((w.setCell ⟨b,0,none⟩ v0).setCell ⟨b,1,none⟩ v1).setCell ⟨b,2,none⟩ v2).setCell ⟨b,3,none⟩ v3).setCell ⟨b,4,none⟩ v4).setCell ⟨b,5,none⟩ v5).setCell ⟨b,6,none⟩ v6).heap[b]? = some (.cells #[v0,v1,v2,v3,v4,v5,v6,u7,u8,u9,u10,u11,u12,u13] t):=by rw [heap_setCell_same _ b 6 _ _ _ h5];rfl
 have h7:((((((((w.setCell ⟨b,0,none⟩ v0).setCell ⟨b,1,none⟩ v1).setCell ⟨b,2,none⟩ v2).setCell ⟨b,3,none⟩ v3).setCell ⟨b,4,none⟩ v4).setCell ⟨b,5,none⟩ v5).setCell ⟨b,6,none⟩ v6).setCell ⟨b,7,none⟩ v7).heap[b]? = some (.cells #[v0,v1,v2,v3,v4,v5,v6,v7,u8,u9,u10,u11,u12,u13] t):=by rw [heap_setCell_same _ b 7 _ _ _ h6];rfl
 have h8:(((((((((w.setCell ⟨b,0,none⟩ v0).setCell ⟨b,1,none⟩ v1).setCell ⟨b,2,none⟩ v2).setCell ⟨b,3,none⟩ v3).setCell ⟨b,4,none⟩ v4).setCell ⟨b,5,none⟩ v5).setCell ⟨b,6,none⟩ v6).setCell ⟨b,7,none⟩ v7).setCell ⟨b,8,none⟩ v8).heap[b]? = some (.cells #[v0,v1,v2,v3,v4,v5,v6,v7,v8,u9,u10,u11,u12,u13] t):=by rw [heap_setCell_same _ b 8 _ _ _ h7];rfl
 have h9:((((((((((w.setCell ⟨b,0,none⟩ v0).setCell ⟨b,1,none⟩ v1).setCell ⟨b,2,none⟩ v2).setCell ⟨b,3,none⟩ v3).setCell ⟨b,4,none⟩ v4).setCell ⟨b,5,none⟩ v5).setCell ⟨b,6,none⟩ v6).setCell ⟨b,7,none⟩ v7).setCell ⟨b,8,none⟩ v8).setCell ⟨b,9,none⟩ v9).heap[b]? = some (.cells #[v0,v1,v2,v3,v4,v5,v6,v7,v8,v9,u10,u11,u12,u13] t):=by rw [heap_setCell_same _ b 9 _ _ _ h8];rfl
 have h10:(((((((((((w.setCell ⟨b,0,none⟩ v0).setCell ⟨b,1,none⟩ v1).setCell ⟨b,2,none⟩ v2).setCell ⟨b,3,none⟩ v3).setCell ⟨b,4,none⟩ v4).setCell ⟨b,5,none⟩ v5).setCell ⟨b,6,none⟩ v6).setCell ⟨b,7,none⟩ v7).setCell ⟨b,8,none⟩ v8).setCell ⟨b,9,none⟩ v9).setCell ⟨b,10,none⟩ v10).heap[b]? = some (.cells #[v0,v1,v2,v3,v4,v5,v6,v7,v8,v9,v10,u11,u12,u13] t):=by rw [heap_setCell_same _ b 10 _ _ _ h9];rfl
 have h11:((((((((((((w.setCell ⟨b,0,none⟩ v0).setCell ⟨b,1,none⟩ v1).setCell ⟨b,2,none⟩ v2).setCell ⟨b,3,none⟩ v3).setCell ⟨b,4,none⟩ v4).setCell ⟨b,5,none⟩ v5).setCell ⟨b,6,none⟩ v6).setCell ⟨b,7,none⟩ v7).setCell ⟨b,8,none⟩ v8).setCell ⟨b,9,none⟩ v9).setCell ⟨b,10,none⟩ v10).setCell ⟨b,11,none⟩ v11).heap[b]? = some (.cells #[v0,v1,v2,v3,v4,v5,v6,v7,v8,v9,v10,v11,u12,u13] t):=by rw [heap_setCell_same _ b 11 _ _ _ h10];rfl
 have h12:(((((((((((((w.setCell ⟨b,0,none⟩ v0).setCell ⟨b,1,none⟩ v1).setCell ⟨b,2,none⟩ v2).setCell ⟨b,3,none⟩ v3).setCell ⟨b,4,none⟩ v4).setCell ⟨b,5,none⟩ v5).setCell ⟨b,6,none⟩ v6).setCell ⟨b,7,none⟩ v7).setCell ⟨b,8,none⟩ v8).setCell ⟨b,9,none⟩ v9).setCell ⟨b,10,none⟩ v10).setCell ⟨b,11,none⟩ v11).setCell ⟨b,12,none⟩ v12).heap[b]? = some (.cells #[v0,v1,v2,v3,v4,v5,v6,v7,v8,v9,v10,v11,v12,u13] t):=by rw [heap_setCell_same _ b 12 _ _ _ h11];rfl
 have h13:((((((((((((((w.setCell ⟨b,0,none⟩ v0).setCell ⟨b,1,none⟩ v1).setCell ⟨b,2,none⟩ v2).setCell ⟨b,3,none⟩ v3).setCell ⟨b,4,none⟩ v4).setCell ⟨b,5,none⟩ v5).setCell ⟨b,6,none⟩ v6).setCell ⟨b,7,none⟩ v7).setCell ⟨b,8,none⟩ v8).setCell ⟨b,9,none⟩ v9).setCell ⟨b,10,none⟩ v10).setCell ⟨b,11,none⟩ v11).setCell ⟨b,12,none⟩ v12).setCell ⟨b,13,none⟩ v13).heap[b]? = some (.cells #[v0,v1,v2,v3,v4,v5,v6,v7,v8,v9,v10,v11,v12,v13] t):=by rw [heap_setCell_same _ b 13 _ _ _ h12];rfl
 exact h13
theorem NdAt.put14 {w:World} {b:Nat} {n0:Nd} {k0:Value} (h:NdAt w b n0 k0) (n:Nd) (k:Value):NdAt ((((((((((((((w.setCell ⟨b,0,none⟩ (.int .i64 n.kind)).setCell ⟨b,1,none⟩ (.int .i64 n.num)).setCell ⟨b,2,none⟩ (.string n.text)).setCell ⟨b,3,none⟩ (.string n.ref.sh)).setCell ⟨b,4,none⟩ (.int .i64 n.ref.c)).setCell ⟨b,5,none⟩ (.int .i64 n.ref.r)).setCell ⟨b,6,none⟩ (.bool n.ref.ac)).setCell ⟨b,7,none⟩ (.bool n.ref.ar)).setCell ⟨b,8,none⟩ (.string n.to.sh)).setCell ⟨b,9,none⟩ (.int .i64 n.to.c)).setCell ⟨b,10,none⟩ (.int .i64 n.to.r)).setCell ⟨b,11,none⟩ (.bool n.to.ac)).setCell ⟨b,12,none⟩ (.bool n.to.ar)).setCell ⟨b,13,none⟩ (k)) b n k:=row14 w b _ _ _ _ _ _ _ _ _ _ _ _ _ _ _ _ _ _ _ _ _ _ _ _ _ _ _ _ _ h
theorem below_set14 {B:Nat} {a w:World} {b:Nat} (h:Below B a w) (hb:B≤b) (v0 v1 v2 v3 v4 v5 v6 v7 v8 v9 v10 v11 v12 v13:Value):Below B a ((((((((((((((w.setCell ⟨b,0,none⟩ v0).setCell ⟨b,1,none⟩ v1).setCell ⟨b,2,none⟩ v2).setCell ⟨b,3,none⟩ v3).setCell ⟨b,4,none⟩ v4).setCell ⟨b,5,none⟩ v5).setCell ⟨b,6,none⟩ v6).setCell ⟨b,7,none⟩ v7).setCell ⟨b,8,none⟩ v8).setCell ⟨b,9,none⟩ v9).setCell ⟨b,10,none⟩ v10).setCell ⟨b,11,none⟩ v11).setCell ⟨b,12,none⟩ v12).setCell ⟨b,13,none⟩ v13) :=
 ((((((((((((((h.setCell hb _).setCell hb _).setCell hb _).setCell hb _).setCell hb _).setCell hb _).setCell hb _).setCell hb _).setCell hb _).setCell hb _).setCell hb _).setCell hb _).setCell hb _).setCell hb _)
set_option maxRecDepth 100000 in
set_option maxHeartbeats 1600000 in
theorem fields_1 (n:Nd) (h1:n.kind=1) (A:Option Addr) (m c:Nat) (w:World):Calls Tryz.prog 141 #[.agg #[.int .i64 n.kind,.int .i64 n.num,.string n.text,.string n.ref.sh,.int .i64 n.ref.c,.int .i64 n.ref.r,.bool n.ref.ac,.bool n.ref.ar,.string n.to.sh,.int .i64 n.to.c,.int .i64 n.to.r,.bool n.to.ac,.bool n.to.ar,.slice A m c]] w fun e w'=>e = .returned (.tuple #[.agg (nodA { Nd.zero with num:=n.num } (.slice none 0 0)),.bool (decide (0≤n.num))])∧Below w.heap.size w w':=by
 have hsz:(w.alloc (.cells #[.int .i64 n.kind,.int .i64 n.num,.string n.text,.string n.ref.sh,.int .i64 n.ref.c,.int .i64 n.ref.r,.bool n.ref.ac,.bool n.ref.ar,.string n.to.sh,.int .i64 n.to.c,.int .i64 n.to.r,.bool n.to.ac,.bool n.to.ar,.slice A m c] 140)).heap.size=w.heap.size+1:=by simp
 have hx:NdAt (w.alloc (.cells #[.int .i64 n.kind,.int .i64 n.num,.string n.text,.string n.ref.sh,.int .i64 n.ref.c,.int .i64 n.ref.r,.bool n.ref.ac,.bool n.ref.ar,.string n.to.sh,.int .i64 n.to.c,.int .i64 n.to.r,.bool n.to.ac,.bool n.to.ar,.slice A m c] 140)) w.heap.size n (.slice A m c):=NdAt.new w n _
 have hy:NdAt ((w.alloc (.cells #[.int .i64 n.kind,.int .i64 n.num,.string n.text,.string n.ref.sh,.int .i64 n.ref.c,.int .i64 n.ref.r,.bool n.ref.ac,.bool n.ref.ar,.string n.to.sh,.int .i64 n.to.c,.int .i64 n.to.r,.bool n.to.ac,.bool n.to.ar,.slice A m c] 140)).alloc (.cells zNod 140)) (w.heap.size+1) Nd.zero (.slice none 0 0):=by rw [← hsz];exact NdAt.new _ Nd.zero _
 have hx2:=hx.below ((Below.refl _ _).alloc (Nat.le_refl _) (.cells zNod 140)) hx.lt
 have HB:=Lib.hid (((Below.refl w.heap.size w).alloc (Nat.le_refl _) (.cells #[.int .i64 n.kind,.int .i64 n.num,.string n.text,.string n.ref.sh,.int .i64 n.ref.c,.int .i64 n.ref.r,.bool n.ref.ac,.bool n.ref.ar,.string n.to.sh,.int .i64 n.to.c,.int .i64 n.to.r,.bool n.to.ac,.bool n.to.ar,.slice A m c] 140)).alloc (by simp) (.cells zNod 140))
 have e1:(n.kind == 1)=true:=beq_iff_eq.2 h1
 clear h1
 go_enter Tryz.func141,Tryz.ntmps141
 go_upto_region 3 with (fail)
 generalize (w.alloc (.cells #[.int .i64 n.kind,.int .i64 n.num,.string n.text,.string n.ref.sh,.int .i64 n.ref.c,.int .i64 n.ref.r,.bool n.ref.ac,.bool n.ref.ar,.string n.to.sh,.int .i64 n.to.c,.int .i64 n.to.r,.bool n.to.ac,.bool n.to.ar,.slice A m c] 140)).alloc (.cells zNod 140)=w1 at hx2 hy HB ⊢
 obtain ⟨x0,x1,x2,x3,x4,x5,x6,x7,x8,x9,x10,x11,x12,x13⟩:=hx2.cells
 obtain ⟨y0,y1,y2,y3,y4,y5,y6,y7,y8,y9,y10,y11,y12,y13⟩:=hy.cells
 have f0:=hy.frozen 0
 have f1:=hy.frozen 1
 have f2:=hy.frozen 2
 have f3:=hy.frozen 3
 have f4:=hy.frozen 4
 have f5:=hy.frozen 5
 have f6:=hy.frozen 6
 have f7:=hy.frozen 7
 have f8:=hy.frozen 8
 have f9:=hy.frozen 9
 have f10:=hy.frozen 10
 have f11:=hy.frozen 11
 have f12:=hy.frozen 12
 have f13:=hy.frozen 13
 have HY:=Lib.hid hy
 clear hx hx2 hy
 go_region
 all_goals go_wp2_with fail
 all_goals exact bodyPost_ret (out_nod (HY.out.put14 { Nd.zero with num:=n.num } (.slice none 0 0)).drew _ _ _ 2 3 res_fields rfl rfl) rfl ⟨rfl,(below_set14 HB.out (by omega) _ _ _ _ _ _ _ _ _ _ _ _ _ _).drew⟩
end Go.Proofs.YtdphoaabaajonaaGreatDoor
