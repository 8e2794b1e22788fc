/-
 Texts of layers, put together.
-/
import Derived.Test.YtdphoaabaajonaaGreatDoorMB5
import Derived.Deep.RegionWith
import Derived.Deep.RegionHeld3
import Derived.RangeFuncNested
import Derived.RangeFuncBound
import Derived.RangeFuncCalls
import Derived.RangeFuncLeaves
import Derived.Shelf.Abstract
import Derived.WalkKit
import Derived.OwnWalkIn
import Derived.TacticsInMore
import Derived.LoopNIn
import Derived.LoopIn
import Derived.Shelf.RegionOpen
import Derived.Maps.AppendAt
import Derived.OrdersIn
import Derived.OrdersHeld
namespace Go.Proofs.YtdphoaabaajonaaGreatDoor
open Go.RowKit
theorem NdAt.melts {w:World} {b:Nat} {n:Nd} {k:Value} (h:NdAt w b n k):w.frozen? ⟨b,0,none⟩=false∧w.frozen? ⟨b,1,none⟩=false∧w.frozen? ⟨b,2,none⟩=false∧w.frozen? ⟨b,3,none⟩=false∧w.frozen? ⟨b,4,none⟩=false∧w.frozen? ⟨b,5,none⟩=false∧w.frozen? ⟨b,6,none⟩=false∧w.frozen? ⟨b,7,none⟩=false∧w.frozen? ⟨b,8,none⟩=false∧w.frozen? ⟨b,9,none⟩=false∧w.frozen? ⟨b,10,none⟩=false∧w.frozen? ⟨b,11,none⟩=false∧w.frozen? ⟨b,12,none⟩=false∧w.frozen? ⟨b,13,none⟩=false :=
 ⟨h.frozen 0,h.frozen 1,h.frozen 2,h.frozen 3,h.frozen 4,h.frozen 5,h.frozen 6,h.frozen 7,h.frozen 8,h.frozen 9,h.frozen 10,h.frozen 11,h.frozen 12,h.frozen 13⟩
theorem NdAt.setOther {w:World} {b g:Nat} {n:Nd} {k:Value} (h:NdAt w b n k) (hg:b≠g) (o:Nat) (v:Value):NdAt (w.setCell ⟨g,o,none⟩ v) b n k:=by
 unfold NdAt;rw [Below.heap_setCell _ _ _ _ (by exact hg)];exact h
theorem NdAt.other14 {w:World} {b g:Nat} {n:Nd} {k:Value} (h:NdAt w b n k) (hg:b≠g) (v0 v1 v2 v3 v4 v5 v6 v7 v8 v9 v10 v11 v12 v13:Value):NdAt ((((((((((((((w.setCell ⟨g,0,none⟩ v0).setCell ⟨g,1,none⟩ v1).setCell ⟨g,2,none⟩ v2).setCell ⟨g,3,none⟩ v3).setCell ⟨g,4,none⟩ v4).setCell ⟨g,5,none⟩ v5).setCell ⟨g,6,none⟩ v6).setCell ⟨g,7,none⟩ v7).setCell ⟨g,8,none⟩ v8).setCell ⟨g,9,none⟩ v9).setCell ⟨g,10,none⟩ v10).setCell ⟨g,11,none⟩ v11).setCell ⟨g,12,none⟩ v12).setCell ⟨g,13,none⟩ v13) b n k :=
 (NdAt.setOther (NdAt.setOther (NdAt.setOther (NdAt.setOther (NdAt.setOther (NdAt.setOther (NdAt.setOther (NdAt.setOther (NdAt.setOther (NdAt.setOther (NdAt.setOther (NdAt.setOther (NdAt.setOther (NdAt.setOther h hg _ _) hg _ _) hg _ _) hg _ _) hg _ _) hg _ _) hg _ _) hg _ _) hg _ _) hg _ _) hg _ _) hg _ _) hg _ _) hg _ _)
set_option maxRecDepth 100000 in
set_option maxHeartbeats 4000000 in
theorem fields_2 (w:World) (n:Nd) (h2:n.kind=2) (hs:n.text.size≤1000000) (A:Option Addr) (m c:Nat):Calls Tryz.prog 141 #[.agg #[.int .i64 n.kind,.int .i64 n.num,.string n.text,.string n.ref.sh,.int .i64 n.ref.c,.int .i64 n.ref.r,.bool n.ref.ac,.bool n.ref.ar,.string n.to.sh,.int .i64 n.to.c,.int .i64 n.to.r,.bool n.to.ac,.bool n.to.ar,.slice A m c]] w fun e w'=>e = .returned (.tuple #[.agg (nodA { Nd.zero with text:=n.text } (.slice none 0 0)),.bool (printB (sb n.text))])∧Below w.heap.size w w':=by
 have hsz:(w.alloc (.cells #[.int .i64 n.kind,.int .i64 n.num,.string n.text,.string n.ref.sh,.int .i64 n.ref.c,.int .i64 n.ref.r,.bool n.ref.ac,.bool n.ref.ar,.string n.to.sh,.int .i64 n.to.c,.int .i64 n.to.r,.bool n.to.ac,.bool n.to.ar,.slice A m c] 140)).heap.size=w.heap.size+1:=by simp
 have hx:NdAt (w.alloc (.cells #[.int .i64 n.kind,.int .i64 n.num,.string n.text,.string n.ref.sh,.int .i64 n.ref.c,.int .i64 n.ref.r,.bool n.ref.ac,.bool n.ref.ar,.string n.to.sh,.int .i64 n.to.c,.int .i64 n.to.r,.bool n.to.ac,.bool n.to.ar,.slice A m c] 140)) w.heap.size n (.slice A m c):=NdAt.new w n _
 have hy:NdAt ((w.alloc (.cells #[.int .i64 n.kind,.int .i64 n.num,.string n.text,.string n.ref.sh,.int .i64 n.ref.c,.int .i64 n.ref.r,.bool n.ref.ac,.bool n.ref.ar,.string n.to.sh,.int .i64 n.to.c,.int .i64 n.to.r,.bool n.to.ac,.bool n.to.ar,.slice A m c] 140)).alloc (.cells zNod 140)) (w.heap.size+1) Nd.zero (.slice none 0 0):=by rw [← hsz];exact NdAt.new _ Nd.zero _
 have hx2:=hx.below ((Below.refl _ _).alloc (Nat.le_refl _) (.cells zNod 140)) hx.lt
 have HB:=Lib.hid (((Below.refl w.heap.size w).alloc (Nat.le_refl _) (.cells #[.int .i64 n.kind,.int .i64 n.num,.string n.text,.string n.ref.sh,.int .i64 n.ref.c,.int .i64 n.ref.r,.bool n.ref.ac,.bool n.ref.ar,.string n.to.sh,.int .i64 n.to.c,.int .i64 n.to.r,.bool n.to.ac,.bool n.to.ar,.slice A m c] 140)).alloc (by simp) (.cells zNod 140))
 have hb2:w.heap.size+1<((w.alloc (.cells #[.int .i64 n.kind,.int .i64 n.num,.string n.text,.string n.ref.sh,.int .i64 n.ref.c,.int .i64 n.ref.r,.bool n.ref.ac,.bool n.ref.ar,.string n.to.sh,.int .i64 n.to.c,.int .i64 n.to.r,.bool n.to.ac,.bool n.to.ar,.slice A m c] 140)).alloc (.cells zNod 140)).heap.size:=hy.lt
 have e1:(n.kind == 1)=false:=by rw [h2];rfl
 have e2:(n.kind == 2)=true:=beq_iff_eq.2 h2
 clear h2
 go_enter Tryz.func141,Tryz.ntmps141
 go_upto_region 5 with (fail)
 generalize (w.alloc (.cells #[.int .i64 n.kind,.int .i64 n.num,.string n.text,.string n.ref.sh,.int .i64 n.ref.c,.int .i64 n.ref.r,.bool n.ref.ac,.bool n.ref.ar,.string n.to.sh,.int .i64 n.to.c,.int .i64 n.to.r,.bool n.to.ac,.bool n.to.ar,.slice A m c] 140)).alloc (.cells zNod 140)=w1 at hx2 hy HB hb2 ⊢
 obtain ⟨x0,x1,x2,x3,x4,x5,x6,x7,x8,x9,x10,x11,x12,x13⟩:=hx2.cells
 obtain ⟨y0,y1,y2,y3,y4,y5,y6,y7,y8,y9,y10,y11,y12,y13⟩:=hy.cells
 obtain ⟨f0,f1,f2,f3,f4,f5,f6,f7,f8,f9,f10,f11,f12,f13⟩:=hy.melts
 have HY:=Lib.hid hy
 have HX:=Lib.hid hx2
 clear hx hx2 hy
 have HT:=Lib.hid (fun w=>isText_any n.text w hs)
 go_region_with (go_at_call 180;((with_reducible refine (HT.out _).mono ?_);rintro e w2 ⟨rfl,rfl⟩))
 all_goals go_wp2_with fail
 all_goals exact bodyPost_ret (out_nod (HY.out.put14 { Nd.zero with text:=n.text } (.slice none 0 0)).drew _ _ _ 2 3 res_fields rfl rfl) rfl ⟨rfl,(below_set14 HB.out (by have:=HB.out.size;omega) _ _ _ _ _ _ _ _ _ _ _ _ _ _).drew⟩
set_option maxRecDepth 100000 in
set_option maxHeartbeats 4000000 in
theorem fields_3a (w:World) (n:Nd) (h3:n.kind=3) (h0:n.num=0) (A:Option Addr) (m c:Nat):Calls Tryz.prog 141 #[.agg #[.int .i64 n.kind,.int .i64 n.num,.string n.text,.string n.ref.sh,.int .i64 n.ref.c,.int .i64 n.ref.r,.bool n.ref.ac,.bool n.ref.ar,.string n.to.sh,.int .i64 n.to.c,.int .i64 n.to.r,.bool n.to.ac,.bool n.to.ar,.slice A m c]] w fun e w'=>e = .returned (.tuple #[.agg (nodA { Nd.zero with num:=n.num } (.slice none 0 0)),.bool true])∧Below w.heap.size w w':=by
 have hsz:(w.alloc (.cells #[.int .i64 n.kind,.int .i64 n.num,.string n.text,.string n.ref.sh,.int .i64 n.ref.c,.int .i64 n.ref.r,.bool n.ref.ac,.bool n.ref.ar,.string n.to.sh,.int .i64 n.to.c,.int .i64 n.to.r,.bool n.to.ac,.bool n.to.ar,.slice A m c] 140)).heap.size=w.heap.size+1:=by simp
 have hx:NdAt (w.alloc (.cells #[.int .i64 n.kind,.int .i64 n.num,.string n.text,.string n.ref.sh,.int .i64 n.ref.c,.int .i64 n.ref.r,.bool n.ref.ac,.bool n.ref.ar,.string n.to.sh,.int .i64 n.to.c,.int .i64 n.to.r,.bool n.to.ac,.bool n.to.ar,.slice A m c] 140)) w.heap.size n (.slice A m c):=NdAt.new w n _
 have hy:NdAt ((w.alloc (.cells #[.int .i64 n.kind,.int .i64 n.num,.string n.text,.string n.ref.sh,.int .i64 n.ref.c,.int .i64 n.ref.r,.bool n.ref.ac,.bool n.ref.ar,.string n.to.sh,.int .i64 n.to.c,.int .i64 n.to.r,.bool n.to.ac,.bool n.to.ar,.slice A m c] 140)).alloc (.cells zNod 140)) (w.heap.size+1) Nd.zero (.slice none 0 0):=by rw [← hsz];exact NdAt.new _ Nd.zero _
 have hx2:=hx.below ((Below.refl _ _).alloc (Nat.le_refl _) (.cells zNod 140)) hx.lt
 have HB:=Lib.hid (((Below.refl w.heap.size w).alloc (Nat.le_refl _) (.cells #[.int .i64 n.kind,.int .i64 n.num,.string n.text,.string n.ref.sh,.int .i64 n.ref.c,.int .i64 n.ref.r,.bool n.ref.ac,.bool n.ref.ar,.string n.to.sh,.int .i64 n.to.c,.int .i64 n.to.r,.bool n.to.ac,.bool n.to.ar,.slice A m c] 140)).alloc (by simp) (.cells zNod 140))
 have hb2:w.heap.size+1<((w.alloc (.cells #[.int .i64 n.kind,.int .i64 n.num,.string n.text,.string n.ref.sh,.int .i64 n.ref.c,.int .i64 n.ref.r,.bool n.ref.ac,.bool n.ref.ar,.string n.to.sh,.int .i64 n.to.c,.int .i64 n.to.r,.bool n.to.ac,.bool n.to.ar,.slice A m c] 140)).alloc (.cells zNod 140)).heap.size:=hy.lt
 have e1:(n.kind == 1)=false:=by rw [h3];rfl
 have e2:(n.kind == 2)=false:=by rw [h3];rfl
 have e3:(n.kind == 3)=true:=beq_iff_eq.2 h3
 clear h3
 have q0:(n.num == 0)=true:=beq_iff_eq.2 h0
 clear h0
 go_enter Tryz.func141,Tryz.ntmps141
 go_upto_region 7 with (fail)
 generalize (w.alloc (.cells #[.int .i64 n.kind,.int .i64 n.num,.string n.text,.string n.ref.sh,.int .i64 n.ref.c,.int .i64 n.ref.r,.bool n.ref.ac,.bool n.ref.ar,.string n.to.sh,.int .i64 n.to.c,.int .i64 n.to.r,.bool n.to.ac,.bool n.to.ar,.slice A m c] 140)).alloc (.cells zNod 140)=w1 at hx2 hy HB hb2 ⊢
 obtain ⟨x0,x1,x2,x3,x4,x5,x6,x7,x8,x9,x10,x11,x12,x13⟩:=hx2.cells
 obtain ⟨y0,y1,y2,y3,y4,y5,y6,y7,y8,y9,y10,y11,y12,y13⟩:=hy.cells
 obtain ⟨f0,f1,f2,f3,f4,f5,f6,f7,f8,f9,f10,f11,f12,f13⟩:=hy.melts
 have HY:=Lib.hid hy
 have HX:=Lib.hid hx2
 clear hx hx2 hy
 go_region
 all_goals go_wp2_with fail
 all_goals exact bodyPost_ret (out_nod (HY.out.put14 { Nd.zero with num:=n.num } (.slice none 0 0)).drew _ _ _ 2 3 res_fields rfl rfl) rfl ⟨rfl,(below_set14 HB.out (by have:=HB.out.size;omega) _ _ _ _ _ _ _ _ _ _ _ _ _ _).drew⟩
set_option maxRecDepth 100000 in
set_option maxHeartbeats 4000000 in
theorem fields_3b (w:World) (n:Nd) (h3:n.kind=3) (h0:n.num=1) (A:Option Addr) (m c:Nat):Calls Tryz.prog 141 #[.agg #[.int .i64 n.kind,.int .i64 n.num,.string n.text,.string n.ref.sh,.int .i64 n.ref.c,.int .i64 n.ref.r,.bool n.ref.ac,.bool n.ref.ar,.string n.to.sh,.int .i64 n.to.c,.int .i64 n.to.r,.bool n.to.ac,.bool n.to.ar,.slice A m c]] w fun e w'=>e = .returned (.tuple #[.agg (nodA { Nd.zero with num:=n.num } (.slice none 0 0)),.bool true])∧Below w.heap.size w w':=by
 have hsz:(w.alloc (.cells #[.int .i64 n.kind,.int .i64 n.num,.string n.text,.string n.ref.sh,.int .i64 n.ref.c,.int .i64 n.ref.r,.bool n.ref.ac,.bool n.ref.ar,.string n.to.sh,.int .i64 n.to.c,.int .i64 n.to.r,.bool n.to.ac,.bool n.to.ar,.slice A m c] 140)).heap.size=w.heap.size+1:=by simp
 have hx:NdAt (w.alloc (.cells #[.int .i64 n.kind,.int .i64 n.num,.string n.text,.string n.ref.sh,.int .i64 n.ref.c,.int .i64 n.ref.r,.bool n.ref.ac,.bool n.ref.ar,.string n.to.sh,.int .i64 n.to.c,.int .i64 n.to.r,.bool n.to.ac,.bool n.to.ar,.slice A m c] 140)) w.heap.size n (.slice A m c):=NdAt.new w n _
 have hy:NdAt ((w.alloc (.cells #[.int .i64 n.kind,.int .i64 n.num,.string n.text,.string n.ref.sh,.int .i64 n.ref.c,.int .i64 n.ref.r,.bool n.ref.ac,.bool n.ref.ar,.string n.to.sh,.int .i64 n.to.c,.int .i64 n.to.r,.bool n.to.ac,.bool n.to.ar,.slice A m c] 140)).alloc (.cells zNod 140)) (w.heap.size+1) Nd.zero (.slice none 0 0):=by rw [← hsz];exact NdAt.new _ Nd.zero _
 have hx2:=hx.below ((Below.refl _ _).alloc (Nat.le_refl _) (.cells zNod 140)) hx.lt
 have HB:=Lib.hid (((Below.refl w.heap.size w).alloc (Nat.le_refl _) (.cells #[.int .i64 n.kind,.int .i64 n.num,.string n.text,.string n.ref.sh,.int .i64 n.ref.c,.int .i64 n.ref.r,.bool n.ref.ac,.bool n.ref.ar,.string n.to.sh,.int .i64 n.to.c,.int .i64 n.to.r,.bool n.to.ac,.bool n.to.ar,.slice A m c] 140)).alloc (by simp) (.cells zNod 140))
 have hb2:w.heap.size+1<((w.alloc (.cells #[.int .i64 n.kind,.int .i64 n.num,.string n.text,.string n.ref.sh,.int .i64 n.ref.c,.int .i64 n.ref.r,.bool n.ref.ac,.bool n.ref.ar,.string n.to.sh,.int .i64 n.to.c,.int .i64 n.to.r,.bool n.to.ac,.bool n.to.ar,.slice A m c] 140)).alloc (.cells zNod 140)).heap.size:=hy.lt
 have e1:(n.kind == 1)=false:=by rw [h3];rfl
 have e2:(n.kind == 2)=false:=by rw [h3];rfl
 have e3:(n.kind == 3)=true:=beq_iff_eq.2 h3
 clear h3
 have q0:(n.num == 0)=false:=by rw [h0];rfl
 have q1:(n.num == 1)=true:=beq_iff_eq.2 h0
 clear h0
 go_enter Tryz.func141,Tryz.ntmps141
 go_upto_region 7 with (fail)
 generalize (w.alloc (.cells #[.int .i64 n.kind,.int .i64 n.num,.string n.text,.string n.ref.sh,.int .i64 n.ref.c,.int .i64 n.ref.r,.bool n.ref.ac,.bool n.ref.ar,.string n.to.sh,.int .i64 n.to.c,.int .i64 n.to.r,.bool n.to.ac,.bool n.to.ar,.slice A m c] 140)).alloc (.cells zNod 140)=w1 at hx2 hy HB hb2 ⊢
 obtain ⟨x0,x1,x2,x3,x4,x5,x6,x7,x8,x9,x10,x11,x12,x13⟩:=hx2.cells
 obtain ⟨y0,y1,y2,y3,y4,y5,y6,y7,y8,y9,y10,y11,y12,y13⟩:=hy.cells
 obtain ⟨f0,f1,f2,f3,f4,f5,f6,f7,f8,f9,f10,f11,f12,f13⟩:=hy.melts
 have HY:=Lib.hid hy
 have HX:=Lib.hid hx2
 clear hx hx2 hy
 go_region
 all_goals go_wp2_with fail
 all_goals exact bodyPost_ret (out_nod (HY.out.put14 { Nd.zero with num:=n.num } (.slice none 0 0)).drew _ _ _ 2 3 res_fields rfl rfl) rfl ⟨rfl,(below_set14 HB.out (by have:=HB.out.size;omega) _ _ _ _ _ _ _ _ _ _ _ _ _ _).drew⟩
set_option maxRecDepth 100000 in
set_option maxHeartbeats 4000000 in
theorem fields_3c (w:World) (n:Nd) (h3:n.kind=3) (h0:¬ (n.num=0∨n.num=1)) (A:Option Addr) (m c:Nat):Calls Tryz.prog 141 #[.agg #[.int .i64 n.kind,.int .i64 n.num,.string n.text,.string n.ref.sh,.int .i64 n.ref.c,.int .i64 n.ref.r,.bool n.ref.ac,.bool n.ref.ar,.string n.to.sh,.int .i64 n.to.c,.int .i64 n.to.r,.bool n.to.ac,.bool n.to.ar,.slice A m c]] w fun e w'=>e = .returned (.tuple #[.agg (nodA { Nd.zero with num:=n.num } (.slice none 0 0)),.bool false])∧Below w.heap.size w w':=by
 have hsz:(w.alloc (.cells #[.int .i64 n.kind,.int .i64 n.num,.string n.text,.string n.ref.sh,.int .i64 n.ref.c,.int .i64 n.ref.r,.bool n.ref.ac,.bool n.ref.ar,.string n.to.sh,.int .i64 n.to.c,.int .i64 n.to.r,.bool n.to.ac,.bool n.to.ar,.slice A m c] 140)).heap.size=w.heap.size+1:=by simp
 have hx:NdAt (w.alloc (.cells #[.int .i64 n.kind,.int .i64 n.num,.string n.text,.string n.ref.sh,.int .i64 n.ref.c,.int .i64 n.ref.r,.bool n.ref.ac,.bool n.ref.ar,.string n.to.sh,.int .i64 n.to.c,.int .i64 n.to.r,.bool n.to.ac,.bool n.to.ar,.slice A m c] 140)) w.heap.size n (.slice A m c):=NdAt.new w n _
 have hy:NdAt ((w.alloc (.cells #[.int .i64 n.kind,.int .i64 n.num,.string n.text,.string n.ref.sh,.int .i64 n.ref.c,.int .i64 n.ref.r,.bool n.ref.ac,.bool n.ref.ar,.string n.to.sh,.int .i64 n.to.c,.int .i64 n.to.r,.bool n.to.ac,.bool n.to.ar,.slice A m c] 140)).alloc (.cells zNod 140)) (w.heap.size+1) Nd.zero (.slice none 0 0):=by rw [← hsz];exact NdAt.new _ Nd.zero _
 have hx2:=hx.below ((Below.refl _ _).alloc (Nat.le_refl _) (.cells zNod 140)) hx.lt
 have HB:=Lib.hid (((Below.refl w.heap.size w).alloc (Nat.le_refl _) (.cells #[.int .i64 n.kind,.int .i64 n.num,.string n.text,.string n.ref.sh,.int .i64 n.ref.c,.int .i64 n.ref.r,.bool n.ref.ac,.bool n.ref.ar,.string n.to.sh,.int .i64 n.to.c,.int .i64 n.to.r,.bool n.to.ac,.bool n.to.ar,.slice A m c] 140)).alloc (by simp) (.cells zNod 140))
 have hb2:w.heap.size+1<((w.alloc (.cells #[.int .i64 n.kind,.int .i64 n.num,.string n.text,.string n.ref.sh,.int .i64 n.ref.c,.int .i64 n.ref.r,.bool n.ref.ac,.bool n.ref.ar,.string n.to.sh,.int .i64 n.to.c,.int .i64 n.to.r,.bool n.to.ac,.bool n.to.ar,.slice A m c] 140)).alloc (.cells zNod 140)).heap.size:=hy.lt
 have e1:(n.kind == 1)=false:=by rw [h3];rfl
 have e2:(n.kind == 2)=false:=by rw [h3];rfl
 have e3:(n.kind == 3)=true:=beq_iff_eq.2 h3
 clear h3
 have q0:(n.num == 0)=false:=by rw [beq_eq_false_iff_ne];omega
 have q1:(n.num == 1)=false:=by rw [beq_eq_false_iff_ne];omega
 clear h0
 go_enter Tryz.func141,Tryz.ntmps141
 go_upto_region 7 with (fail)
 generalize (w.alloc (.cells #[.int .i64 n.kind,.int .i64 n.num,.string n.text,.string n.ref.sh,.int .i64 n.ref.c,.int .i64 n.ref.r,.bool n.ref.ac,.bool n.ref.ar,.string n.to.sh,.int .i64 n.to.c,.int .i64 n.to.r,.bool n.to.ac,.bool n.to.ar,.slice A m c] 140)).alloc (.cells zNod 140)=w1 at hx2 hy HB hb2 ⊢
 obtain ⟨x0,x1,x2,x3,x4,x5,x6,x7,x8,x9,x10,x11,x12,x13⟩:=hx2.cells
 obtain ⟨y0,y1,y2,y3,y4,y5,y6,y7,y8,y9,y10,y11,y12,y13⟩:=hy.cells
 obtain ⟨f0,f1,f2,f3,f4,f5,f6,f7,f8,f9,f10,f11,f12,f13⟩:=hy.melts
 have HY:=Lib.hid hy
 have HX:=Lib.hid hx2
 clear hx hx2 hy
 go_region
 all_goals go_wp2_with fail
 all_goals exact bodyPost_ret (out_nod (HY.out.put14 { Nd.zero with num:=n.num } (.slice none 0 0)).drew _ _ _ 2 3 res_fields rfl rfl) rfl ⟨rfl,(below_set14 HB.out (by have:=HB.out.size;omega) _ _ _ _ _ _ _ _ _ _ _ _ _ _).drew⟩
set_option maxRecDepth 100000 in
set_option maxHeartbeats 4000000 in
theorem fields_5 (w:World) (n:Nd) (h5:n.kind=5) (hs:n.ref.sh.size≤1000000) (A:Option Addr) (m c:Nat):Calls Tryz.prog 141 #[.agg #[.int .i64 n.kind,.int .i64 n.num,.string n.text,.string n.ref.sh,.int .i64 n.ref.c,.int .i64 n.ref.r,.bool n.ref.ac,.bool n.ref.ar,.string n.to.sh,.int .i64 n.to.c,.int .i64 n.to.r,.bool n.to.ac,.bool n.to.ar,.slice A m c]] w fun e w'=>e = .returned (.tuple #[.agg (nodA { Nd.zero with ref:=n.ref } (.slice none 0 0)),.bool (mayRf n.ref)])∧Below w.heap.size w w':=by
 have hsz:(w.alloc (.cells #[.int .i64 n.kind,.int .i64 n.num,.string n.text,.string n.ref.sh,.int .i64 n.ref.c,.int .i64 n.ref.r,.bool n.ref.ac,.bool n.ref.ar,.string n.to.sh,.int .i64 n.to.c,.int .i64 n.to.r,.bool n.to.ac,.bool n.to.ar,.slice A m c] 140)).heap.size=w.heap.size+1:=by simp
 have hx:NdAt (w.alloc (.cells #[.int .i64 n.kind,.int .i64 n.num,.string n.text,.string n.ref.sh,.int .i64 n.ref.c,.int .i64 n.ref.r,.bool n.ref.ac,.bool n.ref.ar,.string n.to.sh,.int .i64 n.to.c,.int .i64 n.to.r,.bool n.to.ac,.bool n.to.ar,.slice A m c] 140)) w.heap.size n (.slice A m c):=NdAt.new w n _
 have hy:NdAt ((w.alloc (.cells #[.int .i64 n.kind,.int .i64 n.num,.string n.text,.string n.ref.sh,.int .i64 n.ref.c,.int .i64 n.ref.r,.bool n.ref.ac,.bool n.ref.ar,.string n.to.sh,.int .i64 n.to.c,.int .i64 n.to.r,.bool n.to.ac,.bool n.to.ar,.slice A m c] 140)).alloc (.cells zNod 140)) (w.heap.size+1) Nd.zero (.slice none 0 0):=by rw [← hsz];exact NdAt.new _ Nd.zero _
 have hx2:=hx.below ((Below.refl _ _).alloc (Nat.le_refl _) (.cells zNod 140)) hx.lt
 have HB:=Lib.hid (((Below.refl w.heap.size w).alloc (Nat.le_refl _) (.cells #[.int .i64 n.kind,.int .i64 n.num,.string n.text,.string n.ref.sh,.int .i64 n.ref.c,.int .i64 n.ref.r,.bool n.ref.ac,.bool n.ref.ar,.string n.to.sh,.int .i64 n.to.c,.int .i64 n.to.r,.bool n.to.ac,.bool n.to.ar,.slice A m c] 140)).alloc (by simp) (.cells zNod 140))
 have hb2:w.heap.size+1<((w.alloc (.cells #[.int .i64 n.kind,.int .i64 n.num,.string n.text,.string n.ref.sh,.int .i64 n.ref.c,.int .i64 n.ref.r,.bool n.ref.ac,.bool n.ref.ar,.string n.to.sh,.int .i64 n.to.c,.int .i64 n.to.r,.bool n.to.ac,.bool n.to.ar,.slice A m c] 140)).alloc (.cells zNod 140)).heap.size:=hy.lt
 have e1:(n.kind == 1)=false:=by rw [h5];rfl
 have e2:(n.kind == 2)=false:=by rw [h5];rfl
 have e3:(n.kind == 3)=false:=by rw [h5];rfl
 have e5:(n.kind == 5)=true:=beq_iff_eq.2 h5
 clear h5
 go_enter Tryz.func141,Tryz.ntmps141
 go_upto_region 9 with (fail)
 generalize (w.alloc (.cells #[.int .i64 n.kind,.int .i64 n.num,.string n.text,.string n.ref.sh,.int .i64 n.ref.c,.int .i64 n.ref.r,.bool n.ref.ac,.bool n.ref.ar,.string n.to.sh,.int .i64 n.to.c,.int .i64 n.to.r,.bool n.to.ac,.bool n.to.ar,.slice A m c] 140)).alloc (.cells zNod 140)=w1 at hx2 hy HB hb2 ⊢
 obtain ⟨x0,x1,x2,x3,x4,x5,x6,x7,x8,x9,x10,x11,x12,x13⟩:=hx2.cells
 obtain ⟨y0,y1,y2,y3,y4,y5,y6,y7,y8,y9,y10,y11,y12,y13⟩:=hy.cells
 obtain ⟨f0,f1,f2,f3,f4,f5,f6,f7,f8,f9,f10,f11,f12,f13⟩:=hy.melts
 have HY:=Lib.hid hy
 have HX:=Lib.hid hx2
 clear hx hx2 hy
 have HT:=Lib.hid (fun w=>may_any n.ref.sh n.ref.c n.ref.r n.ref.ac n.ref.ar w hs)
 go_region_held3 (fun w'=>w'.cell? ⟨w.heap.size,3,none⟩=some (.string n.ref.sh)∧w'.cell? ⟨w.heap.size,4,none⟩=some (.int .i64 n.ref.c)∧w'.cell? ⟨w.heap.size,5,none⟩=some (.int .i64 n.ref.r)∧w'.cell? ⟨w.heap.size,6,none⟩=some (.bool n.ref.ac)∧w'.cell? ⟨w.heap.size,7,none⟩=some (.bool n.ref.ar)) (go_keep) (first | (go_at_call 181;((with_reducible refine (HT.out _).mono ?_);rintro e w2 ⟨rfl,h1⟩;have HY2:=Lib.hid (HY.out.drew.below h1 HY.out.lt);have HX2:=Lib.hid (HX.out.drew.below h1 HX.out.lt);have HB2:=Lib.hid (HB.out.drew.trans (h1.mono HB.out.size));obtain ⟨z0,z1,z2,z3,z4,z5,z6,z7,z8,z9,z10,z11,z12,z13⟩:=HY2.out.cells;obtain ⟨g0,g1,g2,g3,g4,g5,g6,g7,g8,g9,g10,g11,g12,g13⟩:=HY2.out.melts;obtain ⟨t0,t1,t2,t3,t4,t5,t6,t7,t8,t9,t10,t11,t12,t13⟩:=HX2.out.cells;clear h1)))
 all_goals go_wp2_with fail
 all_goals exact bodyPost_ret (out_nod (HY2.out.put14 { Nd.zero with ref:=n.ref } (.slice none 0 0)) _ _ _ 2 3 res_fields rfl rfl) rfl ⟨rfl,below_set14 HB2.out (by have:=HB.out.size;omega) _ _ _ _ _ _ _ _ _ _ _ _ _ _⟩
set_option maxRecDepth 100000 in
set_option maxHeartbeats 4000000 in
theorem fields_7 (w:World) (n:Nd) (h7:n.kind=7) (hv:Vars w) (A:Option Addr) (m c:Nat):Calls Tryz.prog 141 #[.agg #[.int .i64 n.kind,.int .i64 n.num,.string n.text,.string n.ref.sh,.int .i64 n.ref.c,.int .i64 n.ref.r,.bool n.ref.ac,.bool n.ref.ar,.string n.to.sh,.int .i64 n.to.c,.int .i64 n.to.r,.bool n.to.ac,.bool n.to.ar,.slice A m c]] w fun e w'=>e = .returned (.tuple #[.agg (nodA { Nd.zero with text:=n.text } (.slice none 0 0)),.bool (callB n.text)])∧Below w.heap.size w w':=by
 have hsz:(w.alloc (.cells #[.int .i64 n.kind,.int .i64 n.num,.string n.text,.string n.ref.sh,.int .i64 n.ref.c,.int .i64 n.ref.r,.bool n.ref.ac,.bool n.ref.ar,.string n.to.sh,.int .i64 n.to.c,.int .i64 n.to.r,.bool n.to.ac,.bool n.to.ar,.slice A m c] 140)).heap.size=w.heap.size+1:=by simp
 have hx:NdAt (w.alloc (.cells #[.int .i64 n.kind,.int .i64 n.num,.string n.text,.string n.ref.sh,.int .i64 n.ref.c,.int .i64 n.ref.r,.bool n.ref.ac,.bool n.ref.ar,.string n.to.sh,.int .i64 n.to.c,.int .i64 n.to.r,.bool n.to.ac,.bool n.to.ar,.slice A m c] 140)) w.heap.size n (.slice A m c):=NdAt.new w n _
 have hy:NdAt ((w.alloc (.cells #[.int .i64 n.kind,.int .i64 n.num,.string n.text,.string n.ref.sh,.int .i64 n.ref.c,.int .i64 n.ref.r,.bool n.ref.ac,.bool n.ref.ar,.string n.to.sh,.int .i64 n.to.c,.int .i64 n.to.r,.bool n.to.ac,.bool n.to.ar,.slice A m c] 140)).alloc (.cells zNod 140)) (w.heap.size+1) Nd.zero (.slice none 0 0):=by rw [← hsz];exact NdAt.new _ Nd.zero _
 have hx2:=hx.below ((Below.refl _ _).alloc (Nat.le_refl _) (.cells zNod 140)) hx.lt
 have HB:=Lib.hid (((Below.refl w.heap.size w).alloc (Nat.le_refl _) (.cells #[.int .i64 n.kind,.int .i64 n.num,.string n.text,.string n.ref.sh,.int .i64 n.ref.c,.int .i64 n.ref.r,.bool n.ref.ac,.bool n.ref.ar,.string n.to.sh,.int .i64 n.to.c,.int .i64 n.to.r,.bool n.to.ac,.bool n.to.ar,.slice A m c] 140)).alloc (by simp) (.cells zNod 140))
 have hb2:w.heap.size+1<((w.alloc (.cells #[.int .i64 n.kind,.int .i64 n.num,.string n.text,.string n.ref.sh,.int .i64 n.ref.c,.int .i64 n.ref.r,.bool n.ref.ac,.bool n.ref.ar,.string n.to.sh,.int .i64 n.to.c,.int .i64 n.to.r,.bool n.to.ac,.bool n.to.ar,.slice A m c] 140)).alloc (.cells zNod 140)).heap.size:=hy.lt
 have e1:(n.kind == 1)=false:=by rw [h7];rfl
 have e2:(n.kind == 2)=false:=by rw [h7];rfl
 have e3:(n.kind == 3)=false:=by rw [h7];rfl
 have e5:(n.kind == 5)=false:=by rw [h7];rfl
 have e6:(n.kind == 6)=false:=by rw [h7];rfl
 have e7:(n.kind == 7)=true:=beq_iff_eq.2 h7
 clear h7
 have HVV:=Lib.hid hv;clear hv
 go_enter Tryz.func141,Tryz.ntmps141
 go_upto_region 13 with (fail)
 generalize (w.alloc (.cells #[.int .i64 n.kind,.int .i64 n.num,.string n.text,.string n.ref.sh,.int .i64 n.ref.c,.int .i64 n.ref.r,.bool n.ref.ac,.bool n.ref.ar,.string n.to.sh,.int .i64 n.to.c,.int .i64 n.to.r,.bool n.to.ac,.bool n.to.ar,.slice A m c] 140)).alloc (.cells zNod 140)=w1 at hx2 hy HB hb2 ⊢
 obtain ⟨x0,x1,x2,x3,x4,x5,x6,x7,x8,x9,x10,x11,x12,x13⟩:=hx2.cells
 obtain ⟨y0,y1,y2,y3,y4,y5,y6,y7,y8,y9,y10,y11,y12,y13⟩:=hy.cells
 obtain ⟨f0,f1,f2,f3,f4,f5,f6,f7,f8,f9,f10,f11,f12,f13⟩:=hy.melts
 have HY:=Lib.hid hy
 have HX:=Lib.hid hx2
 clear hx hx2 hy
 have HT:=Lib.hid (fun wr (hb:Below w.heap.size w wr)=>isName5_any n.text wr (HVV.out.below hb))
 go_region_held3 (fun w'=>w'.cell? ⟨w.heap.size,2,none⟩=some (.string n.text)) (go_keep) (first | (go_at_call 182;((with_reducible refine (HT.out _ HB.out.drew).mono ?_);rintro e w2 ⟨rfl,h1⟩;have HY2:=Lib.hid (HY.out.drew.below h1 HY.out.lt);have HX2:=Lib.hid (HX.out.drew.below h1 HX.out.lt);have HB2:=Lib.hid (HB.out.drew.trans (h1.mono HB.out.size));clear h1;obtain ⟨z0,z1,z2,z3,z4,z5,z6,z7,z8,z9,z10,z11,z12,z13⟩:=HY2.out.cells;obtain ⟨g0,g1,g2,g3,g4,g5,g6,g7,g8,g9,g10,g11,g12,g13⟩:=HY2.out.melts;obtain ⟨t0,t1,t2,t3,t4,t5,t6,t7,t8,t9,t10,t11,t12,t13⟩:=HX2.out.cells)))
 all_goals go_wp2_with fail
 all_goals exact bodyPost_ret (out_nod (HY2.out.put14 { Nd.zero with text:=n.text } (.slice none 0 0)) _ _ _ 2 3 res_fields rfl rfl) rfl ⟨rfl,below_set14 HB2.out (by have:=HB.out.size;omega) _ _ _ _ _ _ _ _ _ _ _ _ _ _⟩
set_option maxRecDepth 100000 in
set_option maxHeartbeats 4000000 in
theorem fields_6a (w:World) (n:Nd) (h6:n.kind=6) (hs:n.ref.sh.size≤1000000) (_ht:n.to.sh.size≤1000000) (q1:mayRf n.ref=false) (A:Option Addr) (m c:Nat):Calls Tryz.prog 141 #[.agg #[.int .i64 n.kind,.int .i64 n.num,.string n.text,.string n.ref.sh,.int .i64 n.ref.c,.int .i64 n.ref.r,.bool n.ref.ac,.bool n.ref.ar,.string n.to.sh,.int .i64 n.to.c,.int .i64 n.to.r,.bool n.to.ac,.bool n.to.ar,.slice A m c]] w fun e w'=>e = .returned (.tuple #[.agg (nodA ⟨0,0,⟨#[]⟩,n.ref,n.to,[]⟩ (.slice none 0 0)),.bool false])∧Below w.heap.size w w':=by
 have hsz:(w.alloc (.cells #[.int .i64 n.kind,.int .i64 n.num,.string n.text,.string n.ref.sh,.int .i64 n.ref.c,.int .i64 n.ref.r,.bool n.ref.ac,.bool n.ref.ar,.string n.to.sh,.int .i64 n.to.c,.int .i64 n.to.r,.bool n.to.ac,.bool n.to.ar,.slice A m c] 140)).heap.size=w.heap.size+1:=by simp
 have hx:NdAt (w.alloc (.cells #[.int .i64 n.kind,.int .i64 n.num,.string n.text,.string n.ref.sh,.int .i64 n.ref.c,.int .i64 n.ref.r,.bool n.ref.ac,.bool n.ref.ar,.string n.to.sh,.int .i64 n.to.c,.int .i64 n.to.r,.bool n.to.ac,.bool n.to.ar,.slice A m c] 140)) w.heap.size n (.slice A m c):=NdAt.new w n _
 have hy:NdAt ((w.alloc (.cells #[.int .i64 n.kind,.int .i64 n.num,.string n.text,.string n.ref.sh,.int .i64 n.ref.c,.int .i64 n.ref.r,.bool n.ref.ac,.bool n.ref.ar,.string n.to.sh,.int .i64 n.to.c,.int .i64 n.to.r,.bool n.to.ac,.bool n.to.ar,.slice A m c] 140)).alloc (.cells zNod 140)) (w.heap.size+1) Nd.zero (.slice none 0 0):=by rw [← hsz];exact NdAt.new _ Nd.zero _
 have hx2:=hx.below ((Below.refl _ _).alloc (Nat.le_refl _) (.cells zNod 140)) hx.lt
 have HB:=Lib.hid (((Below.refl w.heap.size w).alloc (Nat.le_refl _) (.cells #[.int .i64 n.kind,.int .i64 n.num,.string n.text,.string n.ref.sh,.int .i64 n.ref.c,.int .i64 n.ref.r,.bool n.ref.ac,.bool n.ref.ar,.string n.to.sh,.int .i64 n.to.c,.int .i64 n.to.r,.bool n.to.ac,.bool n.to.ar,.slice A m c] 140)).alloc (by simp) (.cells zNod 140))
 have hb2:w.heap.size+1<((w.alloc (.cells #[.int .i64 n.kind,.int .i64 n.num,.string n.text,.string n.ref.sh,.int .i64 n.ref.c,.int .i64 n.ref.r,.bool n.ref.ac,.bool n.ref.ar,.string n.to.sh,.int .i64 n.to.c,.int .i64 n.to.r,.bool n.to.ac,.bool n.to.ar,.slice A m c] 140)).alloc (.cells zNod 140)).heap.size:=hy.lt
 have e1:(n.kind == 1)=false:=by rw [h6];rfl
 have e2:(n.kind == 2)=false:=by rw [h6];rfl
 have e3:(n.kind == 3)=false:=by rw [h6];rfl
 have e5:(n.kind == 5)=false:=by rw [h6];rfl
 have e6:(n.kind == 6)=true:=beq_iff_eq.2 h6
 clear h6
 go_enter Tryz.func141,Tryz.ntmps141
 go_upto_region 11 with (fail)
 generalize (w.alloc (.cells #[.int .i64 n.kind,.int .i64 n.num,.string n.text,.string n.ref.sh,.int .i64 n.ref.c,.int .i64 n.ref.r,.bool n.ref.ac,.bool n.ref.ar,.string n.to.sh,.int .i64 n.to.c,.int .i64 n.to.r,.bool n.to.ac,.bool n.to.ar,.slice A m c] 140)).alloc (.cells zNod 140)=w1 at hx2 hy HB hb2 ⊢
 obtain ⟨x0,x1,x2,x3,x4,x5,x6,x7,x8,x9,x10,x11,x12,x13⟩:=hx2.cells
 obtain ⟨y0,y1,y2,y3,y4,y5,y6,y7,y8,y9,y10,y11,y12,y13⟩:=hy.cells
 obtain ⟨f0,f1,f2,f3,f4,f5,f6,f7,f8,f9,f10,f11,f12,f13⟩:=hy.melts
 have HY:=Lib.hid hy
 have HX:=Lib.hid hx2
 clear hx hx2 hy
 have HT1:=Lib.hid (show ∀ w,Calls Tryz.prog 181 #[.agg #[.string n.ref.sh,.int .i64 n.ref.c,.int .i64 n.ref.r,.bool n.ref.ac,.bool n.ref.ar]] w fun e w'=>e = .returned (.bool false)∧Below w.heap.size w w' from fun w=>by rw [← q1];exact may_any n.ref.sh n.ref.c n.ref.r n.ref.ac n.ref.ar w hs)
 refine wp_region_held_drew (S:=fun W=>NdAt W w.heap.size n (.slice A m c)) (by kernel_rfl) HX.out.drew (fun _ => ?_)
 show wpAnyH _ _ _ _ _ 22 #[false,false,false,false,false,false,false,false,false,false,false,false,false,false,false,false,false,false,false,false,false,false] _ _
 refine held_take (i:=0) (d:=some 45) (fuel:=21) (listed':=#[true,false,false,false,false,false,false,false,false,false,false,false,false,false,false,false,false,false,false,false,false,false]) (v := ?_) rfl rfl (by kernel_rfl) (by kernel_rfl) (by kernel_rfl) rfl (fun _ _ _ h=>h) (by rfl) ?_ HX.out.drew ?_
 rotate_left
 · (intro wS hSw;go_simp;try (with_reducible rfl))
 simp only [Act.put,sT,sZ,sS]
 refine held_take (i:=1) (d:=some 46) (fuel:=20) (listed':=#[true,true,false,false,false,false,false,false,false,false,false,false,false,false,false,false,false,false,false,false,false,false]) (v := ?_) rfl rfl (by kernel_rfl) (by kernel_rfl) (by kernel_rfl) rfl (fun _ _ _ h=>h) (by rfl) ?_ HX.out.drew ?_
 rotate_left
 · (intro wS hSw;have hz:=NdAt.cells hSw;go_simp;try (with_reducible rfl))
 simp only [Act.put,sT,sZ,sS]
 refine held_take (i:=2) (d:=some 47) (fuel:=19) (listed':=#[true,true,true,false,false,false,false,false,false,false,false,false,false,false,false,false,false,false,false,false,false,false]) (v := ?_) rfl rfl (by kernel_rfl) (by kernel_rfl) (by kernel_rfl) rfl (fun _ _ _ h=>h) (by rfl) ?_ HX.out.drew ?_
 rotate_left
 · (intro wS hSw;go_simp;try (with_reducible rfl))
 simp only [Act.put,sT,sZ,sS]
 refine held_take (i:=3) (d:=some 48) (fuel:=18) (listed':=#[true,true,true,true,false,false,false,false,false,false,false,false,false,false,false,false,false,false,false,false,false,false]) (v := ?_) rfl rfl (by kernel_rfl) (by kernel_rfl) (by kernel_rfl) rfl (fun _ _ _ h=>h) (by rfl) ?_ HX.out.drew ?_
 rotate_left
 · (intro wS hSw;have hz:=NdAt.cells hSw;go_simp;try (with_reducible rfl))
 simp only [Act.put,sT,sZ,sS]
 refine held_take (i:=4) (d:=some 49) (fuel:=17) (listed':=#[true,true,true,true,true,false,false,false,false,false,false,false,false,false,false,false,false,false,false,false,false,false]) (v := ?_) rfl rfl (by kernel_rfl) (by kernel_rfl) (by kernel_rfl) rfl (fun _ _ _ h=>h) (by rfl) ?_ HX.out.drew ?_
 rotate_left
 · (intro wS hSw;go_simp;try (with_reducible rfl))
 simp only [Act.put,sT,sZ,sS]
 refine held_take (i:=5) (d:=some 50) (fuel:=16) (listed':=#[true,true,true,true,true,true,false,false,false,false,false,false,false,false,false,false,false,false,false,false,false,false]) (v := ?_) rfl rfl (by kernel_rfl) (by kernel_rfl) (by kernel_rfl) rfl (fun _ _ _ h=>h) (by rfl) ?_ HX.out.drew ?_
 rotate_left
 · (intro wS hSw;go_simp;try (with_reducible rfl))
 simp only [Act.put,sT,sZ,sS]
 refine held_take (i:=6) (d:=some 51) (fuel:=15) (listed':=#[true,true,true,true,true,true,true,false,false,false,false,false,false,false,false,false,false,false,false,false,false,false]) (v := ?_) rfl rfl (by kernel_rfl) (by kernel_rfl) (by kernel_rfl) rfl (fun _ _ _ h=>h) (by rfl) ?_ HX.out.drew ?_
 rotate_left
 · (intro wS hSw;have hz:=NdAt.cells hSw;go_simp;try (with_reducible rfl))
 simp only [Act.put,sT,sZ,sS]
 refine held_one (i:=7) (d:=some 52) (fuel:=14) (listed':=#[true,true,true,true,true,true,true,true,false,false,false,false,false,false,false,false,false,false,false,false,false,false]) rfl rfl (by kernel_rfl) rfl (by rfl) (fun K hK => ?_)
 go_simp
 refine (HT1.out _).mono ?_
 rintro e w2 ⟨rfl,h1⟩
 have HY2:=Lib.hid (HY.out.drew.below h1 HY.out.lt)
 have HX2:=Lib.hid (HX.out.drew.below h1 HX.out.lt)
 have HB2:=Lib.hid (HB.out.drew.trans (h1.mono HB.out.size))
 clear h1
 obtain ⟨z0,z1,z2,z3,z4,z5,z6,z7,z8,z9,z10,z11,z12,z13⟩:=HY2.out.cells
 obtain ⟨g0,g1,g2,g3,g4,g5,g6,g7,g8,g9,g10,g11,g12,g13⟩:=HY2.out.melts
 obtain ⟨t0,t1,t2,t3,t4,t5,t6,t7,t8,t9,t10,t11,t12,t13⟩:=HX2.out.cells
 go_wp2_with fail
 refine hK.out _ _ HX2.out ?_
 clear hK K
 simp only [Act.put,sT,sZ,sS]
 refine held_take (i:=8) (d:=some 53) (fuel:=13) (listed':=#[true,true,true,true,true,true,true,true,true,false,false,false,false,false,false,false,false,false,false,false,false,false]) (v := ?_) rfl rfl (by kernel_rfl) (by kernel_rfl) (by kernel_rfl) rfl (fun _ _ _ h=>h) (by rfl) ?_ HX2.out ?_
 rotate_left
 · (intro wS hSw;go_simp;try (with_reducible rfl))
 simp only [Act.put,sT,sZ,sS]
 refine held_skip (i:=9) (d:=some 54) (fuel:=12) (listed':=#[true,true,true,true,true,true,true,true,true,true,false,false,false,false,false,false,false,false,false,false,false,false]) rfl rfl (by kernel_rfl) (by kernel_rfl) (by kernel_rfl) rfl (fun _ _ _ h=>h) (by rfl) HX2.out ?_
 simp only [Act.put,sT,sZ,sS]
 refine held_skip (i:=10) (d:=some 55) (fuel:=11) (listed':=#[true,true,true,true,true,true,true,true,true,true,true,false,false,false,false,false,false,false,false,false,false,false]) rfl rfl (by kernel_rfl) (by kernel_rfl) (by kernel_rfl) rfl (fun _ _ _ h=>h) (by rfl) HX2.out ?_
 simp only [Act.put,sT,sZ,sS]
 refine held_skip (i:=11) (d:=some 56) (fuel:=10) (listed':=#[true,true,true,true,true,true,true,true,true,true,true,true,false,false,false,false,false,false,false,false,false,false]) rfl rfl (by kernel_rfl) (by kernel_rfl) (by kernel_rfl) rfl (fun _ _ _ h=>h) (by rfl) HX2.out ?_
 simp only [Act.put,sT,sZ,sS]
 refine held_take (i:=12) (d:=some 57) (fuel:=9) (listed':=#[true,true,true,true,true,true,true,true,true,true,true,true,true,false,false,false,false,false,false,false,false,false]) (v := ?_) rfl rfl (by kernel_rfl) (by kernel_rfl) (by kernel_rfl) rfl (fun _ _ _ h=>h) (by rfl) ?_ HX2.out ?_
 rotate_left
 · (intro wS hSw;go_simp;try (with_reducible rfl))
 simp only [Act.put,sT,sZ,sS]
 refine held_take (i:=13) (d:=some 58) (fuel:=8) (listed':=#[true,true,true,true,true,true,true,true,true,true,true,true,true,true,false,false,false,false,false,false,false,false]) (v := ?_) rfl rfl (by kernel_rfl) (by kernel_rfl) (by kernel_rfl) rfl (fun _ _ _ h=>h) (by rfl) ?_ HX2.out ?_
 rotate_left
 · (intro wS hSw;go_simp;try (with_reducible rfl))
 simp only [Act.put,sT,sZ,sS]
 refine held_skip (i:=14) (d:=some 59) (fuel:=7) (listed':=#[true,true,true,true,true,true,true,true,true,true,true,true,true,true,true,false,false,false,false,false,false,false]) rfl rfl (by kernel_rfl) (by kernel_rfl) (by kernel_rfl) rfl (fun _ _ _ h=>h) (by rfl) HX2.out ?_
 simp only [Act.put,sT,sZ,sS]
 refine held_skip (i:=15) (d:=some 60) (fuel:=6) (listed':=#[true,true,true,true,true,true,true,true,true,true,true,true,true,true,true,true,false,false,false,false,false,false]) rfl rfl (by kernel_rfl) (by kernel_rfl) (by kernel_rfl) rfl (fun _ _ _ h=>h) (by rfl) HX2.out ?_
 simp only [Act.put,sT,sZ,sS]
 refine held_skip (i:=16) (d:=some 61) (fuel:=5) (listed':=#[true,true,true,true,true,true,true,true,true,true,true,true,true,true,true,true,true,false,false,false,false,false]) rfl rfl (by kernel_rfl) (by kernel_rfl) (by kernel_rfl) rfl (fun _ _ _ h=>h) (by rfl) HX2.out ?_
 simp only [Act.put,sT,sZ,sS]
 refine held_skip (i:=17) (d:=some 62) (fuel:=4) (listed':=#[true,true,true,true,true,true,true,true,true,true,true,true,true,true,true,true,true,true,false,false,false,false]) rfl rfl (by kernel_rfl) (by kernel_rfl) (by kernel_rfl) rfl (fun _ _ _ h=>h) (by rfl) HX2.out ?_
 simp only [Act.put,sT,sZ,sS]
 refine held_skip (i:=18) (d:=some 63) (fuel:=3) (listed':=#[true,true,true,true,true,true,true,true,true,true,true,true,true,true,true,true,true,true,true,false,false,false]) rfl rfl (by kernel_rfl) (by kernel_rfl) (by kernel_rfl) rfl (fun _ _ _ h=>h) (by rfl) HX2.out ?_
 simp only [Act.put,sT,sZ,sS]
 refine held_take (i:=19) (d:=some 64) (fuel:=2) (listed':=#[true,true,true,true,true,true,true,true,true,true,true,true,true,true,true,true,true,true,true,true,false,false]) (v := ?_) rfl rfl (by kernel_rfl) (by kernel_rfl) (by kernel_rfl) rfl (fun _ _ _ h=>h) (by rfl) ?_ HX2.out ?_
 rotate_left
 · (intro wS hSw;go_simp;try (with_reducible rfl))
 simp only [Act.put,sT,sZ,sS]
 refine held_one (i:=20) (d:=none) (fuel:=1) (listed':=#[true,true,true,true,true,true,true,true,true,true,true,true,true,true,true,true,true,true,true,true,true,false]) rfl rfl (by kernel_rfl) rfl (by rfl) (fun K hK => ?_)
 go_simp
 refine hK.out undef _ (NdAt.other14 HX2.out (by omega) _ _ _ _ _ _ _ _ _ _ _ _ _ _) ?_
 clear hK K
 simp only [Act.put]
 refine held_take (i:=21) (d:=some 3) (fuel:=0) (listed':=#[true,true,true,true,true,true,true,true,true,true,true,true,true,true,true,true,true,true,true,true,true,true]) (v := ?_) rfl rfl (by kernel_rfl) (by kernel_rfl) (by kernel_rfl) rfl (fun _ _ _ h=>h) (by rfl) ?_ (NdAt.other14 HX2.out (by omega) _ _ _ _ _ _ _ _ _ _ _ _ _ _) ?_
 rotate_left
 · (intro wS hSw;go_simp;try (with_reducible rfl))
 simp only [Act.put,sT,sZ,sS]
 refine wpAnyH_done (by kernel_rfl) ?_ _
 go_wp2_with fail
 all_goals exact bodyPost_ret (out_nod (HY2.out.put14 ⟨0,0,⟨#[]⟩,n.ref,n.to,[]⟩ (.slice none 0 0)) _ _ _ 2 3 res_fields rfl rfl) rfl ⟨rfl,below_set14 HB2.out (by have:=HB.out.size;omega) _ _ _ _ _ _ _ _ _ _ _ _ _ _⟩
set_option maxRecDepth 100000 in
set_option maxHeartbeats 4000000 in
theorem fields_6b (w:World) (n:Nd) (h6:n.kind=6) (hs:n.ref.sh.size≤1000000) (ht:n.to.sh.size≤1000000) (q1:mayRf n.ref=true) (q2:mayRf n.to=false) (A:Option Addr) (m c:Nat):Calls Tryz.prog 141 #[.agg #[.int .i64 n.kind,.int .i64 n.num,.string n.text,.string n.ref.sh,.int .i64 n.ref.c,.int .i64 n.ref.r,.bool n.ref.ac,.bool n.ref.ar,.string n.to.sh,.int .i64 n.to.c,.int .i64 n.to.r,.bool n.to.ac,.bool n.to.ar,.slice A m c]] w fun e w'=>e = .returned (.tuple #[.agg (nodA ⟨0,0,⟨#[]⟩,n.ref,n.to,[]⟩ (.slice none 0 0)),.bool false])∧Below w.heap.size w w':=by
 have hsz:(w.alloc (.cells #[.int .i64 n.kind,.int .i64 n.num,.string n.text,.string n.ref.sh,.int .i64 n.ref.c,.int .i64 n.ref.r,.bool n.ref.ac,.bool n.ref.ar,.string n.to.sh,.int .i64 n.to.c,.int .i64 n.to.r,.bool n.to.ac,.bool n.to.ar,.slice A m c] 140)).heap.size=w.heap.size+1:=by simp
 have hx:NdAt (w.alloc (.cells #[.int .i64 n.kind,.int .i64 n.num,.string n.text,.string n.ref.sh,.int .i64 n.ref.c,.int .i64 n.ref.r,.bool n.ref.ac,.bool n.ref.ar,.string n.to.sh,.int .i64 n.to.c,.int .i64 n.to.r,.bool n.to.ac,.bool n.to.ar,.slice A m c] 140)) w.heap.size n (.slice A m c):=NdAt.new w n _
 have hy:NdAt ((w.alloc (.cells #[.int .i64 n.kind,.int .i64 n.num,.string n.text,.string n.ref.sh,.int .i64 n.ref.c,.int .i64 n.ref.r,.bool n.ref.ac,.bool n.ref.ar,.string n.to.sh,.int .i64 n.to.c,.int .i64 n.to.r,.bool n.to.ac,.bool n.to.ar,.slice A m c] 140)).alloc (.cells zNod 140)) (w.heap.size+1) Nd.zero (.slice none 0 0):=by rw [← hsz];exact NdAt.new _ Nd.zero _
 have hx2:=hx.below ((Below.refl _ _).alloc (Nat.le_refl _) (.cells zNod 140)) hx.lt
 have HB:=Lib.hid (((Below.refl w.heap.size w).alloc (Nat.le_refl _) (.cells #[.int .i64 n.kind,.int .i64 n.num,.string n.text,.string n.ref.sh,.int .i64 n.ref.c,.int .i64 n.ref.r,.bool n.ref.ac,.bool n.ref.ar,.string n.to.sh,.int .i64 n.to.c,.int .i64 n.to.r,.bool n.to.ac,.bool n.to.ar,.slice A m c] 140)).alloc (by simp) (.cells zNod 140))
 have hb2:w.heap.size+1<((w.alloc (.cells #[.int .i64 n.kind,.int .i64 n.num,.string n.text,.string n.ref.sh,.int .i64 n.ref.c,.int .i64 n.ref.r,.bool n.ref.ac,.bool n.ref.ar,.string n.to.sh,.int .i64 n.to.c,.int .i64 n.to.r,.bool n.to.ac,.bool n.to.ar,.slice A m c] 140)).alloc (.cells zNod 140)).heap.size:=hy.lt
 have e1:(n.kind == 1)=false:=by rw [h6];rfl
 have e2:(n.kind == 2)=false:=by rw [h6];rfl
 have e3:(n.kind == 3)=false:=by rw [h6];rfl
 have e5:(n.kind == 5)=false:=by rw [h6];rfl
 have e6:(n.kind == 6)=true:=beq_iff_eq.2 h6
 clear h6
 go_enter Tryz.func141,Tryz.ntmps141
 go_upto_region 11 with (fail)
 generalize (w.alloc (.cells #[.int .i64 n.kind,.int .i64 n.num,.string n.text,.string n.ref.sh,.int .i64 n.ref.c,.int .i64 n.ref.r,.bool n.ref.ac,.bool n.ref.ar,.string n.to.sh,.int .i64 n.to.c,.int .i64 n.to.r,.bool n.to.ac,.bool n.to.ar,.slice A m c] 140)).alloc (.cells zNod 140)=w1 at hx2 hy HB hb2 ⊢
 obtain ⟨x0,x1,x2,x3,x4,x5,x6,x7,x8,x9,x10,x11,x12,x13⟩:=hx2.cells
 obtain ⟨y0,y1,y2,y3,y4,y5,y6,y7,y8,y9,y10,y11,y12,y13⟩:=hy.cells
 obtain ⟨f0,f1,f2,f3,f4,f5,f6,f7,f8,f9,f10,f11,f12,f13⟩:=hy.melts
 have HY:=Lib.hid hy
 have HX:=Lib.hid hx2
 clear hx hx2 hy
 have HT1:=Lib.hid (show ∀ w,Calls Tryz.prog 181 #[.agg #[.string n.ref.sh,.int .i64 n.ref.c,.int .i64 n.ref.r,.bool n.ref.ac,.bool n.ref.ar]] w fun e w'=>e = .returned (.bool true)∧Below w.heap.size w w' from fun w=>by rw [← q1];exact may_any n.ref.sh n.ref.c n.ref.r n.ref.ac n.ref.ar w hs)
 have HT2:=Lib.hid (show ∀ w,Calls Tryz.prog 181 #[.agg #[.string n.to.sh,.int .i64 n.to.c,.int .i64 n.to.r,.bool n.to.ac,.bool n.to.ar]] w fun e w'=>e = .returned (.bool false)∧Below w.heap.size w w' from fun w=>by rw [← q2];exact may_any n.to.sh n.to.c n.to.r n.to.ac n.to.ar w ht)
 refine wp_region_held_drew (S:=fun W=>NdAt W w.heap.size n (.slice A m c)) (by kernel_rfl) HX.out.drew (fun _ => ?_)
 show wpAnyH _ _ _ _ _ 22 #[false,false,false,false,false,false,false,false,false,false,false,false,false,false,false,false,false,false,false,false,false,false] _ _
 refine held_take (i:=0) (d:=some 45) (fuel:=21) (listed':=#[true,false,false,false,false,false,false,false,false,false,false,false,false,false,false,false,false,false,false,false,false,false]) (v := ?_) rfl rfl (by kernel_rfl) (by kernel_rfl) (by kernel_rfl) rfl (fun _ _ _ h=>h) (by rfl) ?_ HX.out.drew ?_
 rotate_left
 · (intro wS hSw;go_simp;try (with_reducible rfl))
 simp only [Act.put,sT,sZ,sS]
 refine held_take (i:=1) (d:=some 46) (fuel:=20) (listed':=#[true,true,false,false,false,false,false,false,false,false,false,false,false,false,false,false,false,false,false,false,false,false]) (v := ?_) rfl rfl (by kernel_rfl) (by kernel_rfl) (by kernel_rfl) rfl (fun _ _ _ h=>h) (by rfl) ?_ HX.out.drew ?_
 rotate_left
 · (intro wS hSw;have hz:=NdAt.cells hSw;go_simp;try (with_reducible rfl))
 simp only [Act.put,sT,sZ,sS]
 refine held_take (i:=2) (d:=some 47) (fuel:=19) (listed':=#[true,true,true,false,false,false,false,false,false,false,false,false,false,false,false,false,false,false,false,false,false,false]) (v := ?_) rfl rfl (by kernel_rfl) (by kernel_rfl) (by kernel_rfl) rfl (fun _ _ _ h=>h) (by rfl) ?_ HX.out.drew ?_
 rotate_left
 · (intro wS hSw;go_simp;try (with_reducible rfl))
 simp only [Act.put,sT,sZ,sS]
 refine held_take (i:=3) (d:=some 48) (fuel:=18) (listed':=#[true,true,true,true,false,false,false,false,false,false,false,false,false,false,false,false,false,false,false,false,false,false]) (v := ?_) rfl rfl (by kernel_rfl) (by kernel_rfl) (by kernel_rfl) rfl (fun _ _ _ h=>h) (by rfl) ?_ HX.out.drew ?_
 rotate_left
 · (intro wS hSw;have hz:=NdAt.cells hSw;go_simp;try (with_reducible rfl))
 simp only [Act.put,sT,sZ,sS]
 refine held_take (i:=4) (d:=some 49) (fuel:=17) (listed':=#[true,true,true,true,true,false,false,false,false,false,false,false,false,false,false,false,false,false,false,false,false,false]) (v := ?_) rfl rfl (by kernel_rfl) (by kernel_rfl) (by kernel_rfl) rfl (fun _ _ _ h=>h) (by rfl) ?_ HX.out.drew ?_
 rotate_left
 · (intro wS hSw;go_simp;try (with_reducible rfl))
 simp only [Act.put,sT,sZ,sS]
 refine held_take (i:=5) (d:=some 50) (fuel:=16) (listed':=#[true,true,true,true,true,true,false,false,false,false,false,false,false,false,false,false,false,false,false,false,false,false]) (v := ?_) rfl rfl (by kernel_rfl) (by kernel_rfl) (by kernel_rfl) rfl (fun _ _ _ h=>h) (by rfl) ?_ HX.out.drew ?_
 rotate_left
 · (intro wS hSw;go_simp;try (with_reducible rfl))
 simp only [Act.put,sT,sZ,sS]
 refine held_take (i:=6) (d:=some 51) (fuel:=15) (listed':=#[true,true,true,true,true,true,true,false,false,false,false,false,false,false,false,false,false,false,false,false,false,false]) (v := ?_) rfl rfl (by kernel_rfl) (by kernel_rfl) (by kernel_rfl) rfl (fun _ _ _ h=>h) (by rfl) ?_ HX.out.drew ?_
 rotate_left
 · (intro wS hSw;have hz:=NdAt.cells hSw;go_simp;try (with_reducible rfl))
 simp only [Act.put,sT,sZ,sS]
 refine held_one (i:=7) (d:=some 52) (fuel:=14) (listed':=#[true,true,true,true,true,true,true,true,false,false,false,false,false,false,false,false,false,false,false,false,false,false]) rfl rfl (by kernel_rfl) rfl (by rfl) (fun K hK => ?_)
 go_simp
 refine (HT1.out _).mono ?_
 rintro e w2 ⟨rfl,h1⟩
 have HY2:=Lib.hid (HY.out.drew.below h1 HY.out.lt)
 have HX2:=Lib.hid (HX.out.drew.below h1 HX.out.lt)
 have HB2:=Lib.hid (HB.out.drew.trans (h1.mono HB.out.size))
 clear h1
 obtain ⟨z0,z1,z2,z3,z4,z5,z6,z7,z8,z9,z10,z11,z12,z13⟩:=HY2.out.cells
 obtain ⟨g0,g1,g2,g3,g4,g5,g6,g7,g8,g9,g10,g11,g12,g13⟩:=HY2.out.melts
 obtain ⟨t0,t1,t2,t3,t4,t5,t6,t7,t8,t9,t10,t11,t12,t13⟩:=HX2.out.cells
 go_wp2_with fail
 refine hK.out _ _ HX2.out ?_
 clear hK K
 simp only [Act.put,sT,sZ,sS]
 refine held_take (i:=8) (d:=some 53) (fuel:=13) (listed':=#[true,true,true,true,true,true,true,true,true,false,false,false,false,false,false,false,false,false,false,false,false,false]) (v := ?_) rfl rfl (by kernel_rfl) (by kernel_rfl) (by kernel_rfl) rfl (fun _ _ _ h=>h) (by rfl) ?_ HX2.out ?_
 rotate_left
 · (intro wS hSw;go_simp;try (with_reducible rfl))
 simp only [Act.put,sT,sZ,sS]
 refine held_take (i:=9) (d:=some 54) (fuel:=12) (listed':=#[true,true,true,true,true,true,true,true,true,true,false,false,false,false,false,false,false,false,false,false,false,false]) (v := ?_) rfl rfl (by kernel_rfl) (by kernel_rfl) (by kernel_rfl) rfl (fun _ _ _ h=>h) (by rfl) ?_ HX2.out ?_
 rotate_left
 · (intro wS hSw;go_simp;try (with_reducible rfl))
 simp only [Act.put,sT,sZ,sS]
 refine held_take (i:=10) (d:=some 55) (fuel:=11) (listed':=#[true,true,true,true,true,true,true,true,true,true,true,false,false,false,false,false,false,false,false,false,false,false]) (v := ?_) rfl rfl (by kernel_rfl) (by kernel_rfl) (by kernel_rfl) rfl (fun _ _ _ h=>h) (by rfl) ?_ HX2.out ?_
 rotate_left
 · (intro wS hSw;have hz:=NdAt.cells hSw;go_simp;try (with_reducible rfl))
 simp only [Act.put,sT,sZ,sS]
 refine held_one (i:=11) (d:=some 56) (fuel:=10) (listed':=#[true,true,true,true,true,true,true,true,true,true,true,true,false,false,false,false,false,false,false,false,false,false]) rfl rfl (by kernel_rfl) rfl (by rfl) (fun K hK => ?_)
 go_simp
 refine (HT2.out _).mono ?_
 rintro e w3 ⟨rfl,h1⟩
 have HY3:=Lib.hid (HY2.out.below h1 HY2.out.lt)
 have HX3:=Lib.hid (HX2.out.below h1 HX2.out.lt)
 have HB3:=Lib.hid (HB2.out.trans (h1.mono HB2.out.size))
 clear h1
 obtain ⟨z0,z1,z2,z3,z4,z5,z6,z7,z8,z9,z10,z11,z12,z13⟩:=HY3.out.cells
 obtain ⟨g0,g1,g2,g3,g4,g5,g6,g7,g8,g9,g10,g11,g12,g13⟩:=HY3.out.melts
 obtain ⟨t0,t1,t2,t3,t4,t5,t6,t7,t8,t9,t10,t11,t12,t13⟩:=HX3.out.cells
 go_wp2_with fail
 refine hK.out _ _ HX3.out ?_
 clear hK K
 simp only [Act.put,sT,sZ,sS]
 refine held_take (i:=12) (d:=some 57) (fuel:=9) (listed':=#[true,true,true,true,true,true,true,true,true,true,true,true,true,false,false,false,false,false,false,false,false,false]) (v := ?_) rfl rfl (by kernel_rfl) (by kernel_rfl) (by kernel_rfl) rfl (fun _ _ _ h=>h) (by rfl) ?_ HX3.out ?_
 rotate_left
 · (intro wS hSw;go_simp;try (with_reducible rfl))
 simp only [Act.put,sT,sZ,sS]
 refine held_take (i:=13) (d:=some 58) (fuel:=8) (listed':=#[true,true,true,true,true,true,true,true,true,true,true,true,true,true,false,false,false,false,false,false,false,false]) (v := ?_) rfl rfl (by kernel_rfl) (by kernel_rfl) (by kernel_rfl) rfl (fun _ _ _ h=>h) (by rfl) ?_ HX3.out ?_
 rotate_left
 · (intro wS hSw;go_simp;try (with_reducible rfl))
 simp only [Act.put,sT,sZ,sS]
 refine held_skip (i:=14) (d:=some 59) (fuel:=7) (listed':=#[true,true,true,true,true,true,true,true,true,true,true,true,true,true,true,false,false,false,false,false,false,false]) rfl rfl (by kernel_rfl) (by kernel_rfl) (by kernel_rfl) rfl (fun _ _ _ h=>h) (by rfl) HX3.out ?_
 simp only [Act.put,sT,sZ,sS]
 refine held_skip (i:=15) (d:=some 60) (fuel:=6) (listed':=#[true,true,true,true,true,true,true,true,true,true,true,true,true,true,true,true,false,false,false,false,false,false]) rfl rfl (by kernel_rfl) (by kernel_rfl) (by kernel_rfl) rfl (fun _ _ _ h=>h) (by rfl) HX3.out ?_
 simp only [Act.put,sT,sZ,sS]
 refine held_skip (i:=16) (d:=some 61) (fuel:=5) (listed':=#[true,true,true,true,true,true,true,true,true,true,true,true,true,true,true,true,true,false,false,false,false,false]) rfl rfl (by kernel_rfl) (by kernel_rfl) (by kernel_rfl) rfl (fun _ _ _ h=>h) (by rfl) HX3.out ?_
 simp only [Act.put,sT,sZ,sS]
 refine held_skip (i:=17) (d:=some 62) (fuel:=4) (listed':=#[true,true,true,true,true,true,true,true,true,true,true,true,true,true,true,true,true,true,false,false,false,false]) rfl rfl (by kernel_rfl) (by kernel_rfl) (by kernel_rfl) rfl (fun _ _ _ h=>h) (by rfl) HX3.out ?_
 simp only [Act.put,sT,sZ,sS]
 refine held_skip (i:=18) (d:=some 63) (fuel:=3) (listed':=#[true,true,true,true,true,true,true,true,true,true,true,true,true,true,true,true,true,true,true,false,false,false]) rfl rfl (by kernel_rfl) (by kernel_rfl) (by kernel_rfl) rfl (fun _ _ _ h=>h) (by rfl) HX3.out ?_
 simp only [Act.put,sT,sZ,sS]
 refine held_take (i:=19) (d:=some 64) (fuel:=2) (listed':=#[true,true,true,true,true,true,true,true,true,true,true,true,true,true,true,true,true,true,true,true,false,false]) (v := ?_) rfl rfl (by kernel_rfl) (by kernel_rfl) (by kernel_rfl) rfl (fun _ _ _ h=>h) (by rfl) ?_ HX3.out ?_
 rotate_left
 · (intro wS hSw;go_simp;try (with_reducible rfl))
 simp only [Act.put,sT,sZ,sS]
 refine held_one (i:=20) (d:=none) (fuel:=1) (listed':=#[true,true,true,true,true,true,true,true,true,true,true,true,true,true,true,true,true,true,true,true,true,false]) rfl rfl (by kernel_rfl) rfl (by rfl) (fun K hK => ?_)
 go_simp
 refine hK.out undef _ (NdAt.other14 HX3.out (by omega) _ _ _ _ _ _ _ _ _ _ _ _ _ _) ?_
 clear hK K
 simp only [Act.put]
 refine held_take (i:=21) (d:=some 3) (fuel:=0) (listed':=#[true,true,true,true,true,true,true,true,true,true,true,true,true,true,true,true,true,true,true,true,true,true]) (v := ?_) rfl rfl (by kernel_rfl) (by kernel_rfl) (by kernel_rfl) rfl (fun _ _ _ h=>h) (by rfl) ?_ (NdAt.other14 HX3.out (by omega) _ _ _ _ _ _ _ _ _ _ _ _ _ _) ?_
 rotate_left
 · (intro wS hSw;go_simp;try (with_reducible rfl))
 simp only [Act.put,sT,sZ,sS]
 refine wpAnyH_done (by kernel_rfl) ?_ _
 go_wp2_with fail
 all_goals exact bodyPost_ret (out_nod (HY3.out.put14 ⟨0,0,⟨#[]⟩,n.ref,n.to,[]⟩ (.slice none 0 0)) _ _ _ 2 3 res_fields rfl rfl) rfl ⟨rfl,below_set14 HB3.out (by have:=HB.out.size;omega) _ _ _ _ _ _ _ _ _ _ _ _ _ _⟩
set_option maxRecDepth 100000 in
set_option maxHeartbeats 4000000 in
theorem fields_6c (w:World) (n:Nd) (h6:n.kind=6) (hs:n.ref.sh.size≤1000000) (ht:n.to.sh.size≤1000000) (q1:mayRf n.ref=true) (q2:mayRf n.to=true) (A:Option Addr) (m c:Nat):Calls Tryz.prog 141 #[.agg #[.int .i64 n.kind,.int .i64 n.num,.string n.text,.string n.ref.sh,.int .i64 n.ref.c,.int .i64 n.ref.r,.bool n.ref.ac,.bool n.ref.ar,.string n.to.sh,.int .i64 n.to.c,.int .i64 n.to.r,.bool n.to.ac,.bool n.to.ar,.slice A m c]] w fun e w'=>e = .returned (.tuple #[.agg (nodA ⟨0,0,⟨#[]⟩,n.ref,n.to,[]⟩ (.slice none 0 0)),.bool (spanB n.ref n.to)])∧Below w.heap.size w w':=by
 have hsz:(w.alloc (.cells #[.int .i64 n.kind,.int .i64 n.num,.string n.text,.string n.ref.sh,.int .i64 n.ref.c,.int .i64 n.ref.r,.bool n.ref.ac,.bool n.ref.ar,.string n.to.sh,.int .i64 n.to.c,.int .i64 n.to.r,.bool n.to.ac,.bool n.to.ar,.slice A m c] 140)).heap.size=w.heap.size+1:=by simp
 have hx:NdAt (w.alloc (.cells #[.int .i64 n.kind,.int .i64 n.num,.string n.text,.string n.ref.sh,.int .i64 n.ref.c,.int .i64 n.ref.r,.bool n.ref.ac,.bool n.ref.ar,.string n.to.sh,.int .i64 n.to.c,.int .i64 n.to.r,.bool n.to.ac,.bool n.to.ar,.slice A m c] 140)) w.heap.size n (.slice A m c):=NdAt.new w n _
 have hy:NdAt ((w.alloc (.cells #[.int .i64 n.kind,.int .i64 n.num,.string n.text,.string n.ref.sh,.int .i64 n.ref.c,.int .i64 n.ref.r,.bool n.ref.ac,.bool n.ref.ar,.string n.to.sh,.int .i64 n.to.c,.int .i64 n.to.r,.bool n.to.ac,.bool n.to.ar,.slice A m c] 140)).alloc (.cells zNod 140)) (w.heap.size+1) Nd.zero (.slice none 0 0):=by rw [← hsz];exact NdAt.new _ Nd.zero _
 have hx2:=hx.below ((Below.refl _ _).alloc (Nat.le_refl _) (.cells zNod 140)) hx.lt
 have HB:=Lib.hid (((Below.refl w.heap.size w).alloc (Nat.le_refl _) (.cells #[.int .i64 n.kind,.int .i64 n.num,.string n.text,.string n.ref.sh,.int .i64 n.ref.c,.int .i64 n.ref.r,.bool n.ref.ac,.bool n.ref.ar,.string n.to.sh,.int .i64 n.to.c,.int .i64 n.to.r,.bool n.to.ac,.bool n.to.ar,.slice A m c] 140)).alloc (by simp) (.cells zNod 140))
 have hb2:w.heap.size+1<((w.alloc (.cells #[.int .i64 n.kind,.int .i64 n.num,.string n.text,.string n.ref.sh,.int .i64 n.ref.c,.int .i64 n.ref.r,.bool n.ref.ac,.bool n.ref.ar,.string n.to.sh,.int .i64 n.to.c,.int .i64 n.to.r,.bool n.to.ac,.bool n.to.ar,.slice A m c] 140)).alloc (.cells zNod 140)).heap.size:=hy.lt
 have e1:(n.kind == 1)=false:=by rw [h6];rfl
 have e2:(n.kind == 2)=false:=by rw [h6];rfl
 have e3:(n.kind == 3)=false:=by rw [h6];rfl
 have e5:(n.kind == 5)=false:=by rw [h6];rfl
 have e6:(n.kind == 6)=true:=beq_iff_eq.2 h6
 clear h6
 go_enter Tryz.func141,Tryz.ntmps141
 go_upto_region 11 with (fail)
 generalize (w.alloc (.cells #[.int .i64 n.kind,.int .i64 n.num,.string n.text,.string n.ref.sh,.int .i64 n.ref.c,.int .i64 n.ref.r,.bool n.ref.ac,.bool n.ref.ar,.string n.to.sh,.int .i64 n.to.c,.int .i64 n.to.r,.bool n.to.ac,.bool n.to.ar,.slice A m c] 140)).alloc (.cells zNod 140)=w1 at hx2 hy HB hb2 ⊢
 obtain ⟨x0,x1,x2,x3,x4,x5,x6,x7,x8,x9,x10,x11,x12,x13⟩:=hx2.cells
 obtain ⟨y0,y1,y2,y3,y4,y5,y6,y7,y8,y9,y10,y11,y12,y13⟩:=hy.cells
 obtain ⟨f0,f1,f2,f3,f4,f5,f6,f7,f8,f9,f10,f11,f12,f13⟩:=hy.melts
 have HY:=Lib.hid hy
 have HX:=Lib.hid hx2
 clear hx hx2 hy
 have HT1:=Lib.hid (show ∀ w,Calls Tryz.prog 181 #[.agg #[.string n.ref.sh,.int .i64 n.ref.c,.int .i64 n.ref.r,.bool n.ref.ac,.bool n.ref.ar]] w fun e w'=>e = .returned (.bool true)∧Below w.heap.size w w' from fun w=>by rw [← q1];exact may_any n.ref.sh n.ref.c n.ref.r n.ref.ac n.ref.ar w hs)
 have HT2:=Lib.hid (show ∀ w,Calls Tryz.prog 181 #[.agg #[.string n.to.sh,.int .i64 n.to.c,.int .i64 n.to.r,.bool n.to.ac,.bool n.to.ar]] w fun e w'=>e = .returned (.bool true)∧Below w.heap.size w w' from fun w=>by rw [← q2];exact may_any n.to.sh n.to.c n.to.r n.to.ac n.to.ar w ht)
 have HT3:=Lib.hid (fun w=>isRange_any n.ref.sh n.to.sh n.ref.c n.ref.r n.to.c n.to.r n.ref.ac n.ref.ar n.to.ac n.to.ar w)
 first
  | go_region_held3 (fun w'=>w'.cell? ⟨w.heap.size,3,none⟩=some (.string n.ref.sh)∧w'.cell? ⟨w.heap.size,4,none⟩=some (.int .i64 n.ref.c)∧w'.cell? ⟨w.heap.size,5,none⟩=some (.int .i64 n.ref.r)∧w'.cell? ⟨w.heap.size,6,none⟩=some (.bool n.ref.ac)∧w'.cell? ⟨w.heap.size,7,none⟩=some (.bool n.ref.ar)∧w'.cell? ⟨w.heap.size,8,none⟩=some (.string n.to.sh)∧w'.cell? ⟨w.heap.size,9,none⟩=some (.int .i64 n.to.c)∧w'.cell? ⟨w.heap.size,10,none⟩=some (.int .i64 n.to.r)∧w'.cell? ⟨w.heap.size,11,none⟩=some (.bool n.to.ac)∧w'.cell? ⟨w.heap.size,12,none⟩=some (.bool n.to.ar)) (go_keep) (first | (go_at_call 181;((with_reducible refine (HT1.out _).mono ?_);rintro e w2 ⟨rfl,h1⟩;have HY2:=Lib.hid (HY.out.drew.below h1 HY.out.lt);have HX2:=Lib.hid (HX.out.drew.below h1 HX.out.lt);have HB2:=Lib.hid (HB.out.drew.trans (h1.mono HB.out.size));clear h1;obtain ⟨z0,z1,z2,z3,z4,z5,z6,z7,z8,z9,z10,z11,z12,z13⟩:=HY2.out.cells;obtain ⟨g0,g1,g2,g3,g4,g5,g6,g7,g8,g9,g10,g11,g12,g13⟩:=HY2.out.melts;obtain ⟨t0,t1,t2,t3,t4,t5,t6,t7,t8,t9,t10,t11,t12,t13⟩:=HX2.out.cells)) | (go_at_call 181;((with_reducible refine (HT2.out _).mono ?_);rintro e w3 ⟨rfl,h1⟩;have HY3:=Lib.hid (HY2.out.below h1 HY2.out.lt);have HX3:=Lib.hid (HX2.out.below h1 HX2.out.lt);have HB3:=Lib.hid (HB2.out.trans (h1.mono HB2.out.size));clear h1;obtain ⟨z0,z1,z2,z3,z4,z5,z6,z7,z8,z9,z10,z11,z12,z13⟩:=HY3.out.cells;obtain ⟨g0,g1,g2,g3,g4,g5,g6,g7,g8,g9,g10,g11,g12,g13⟩:=HY3.out.melts;obtain ⟨t0,t1,t2,t3,t4,t5,t6,t7,t8,t9,t10,t11,t12,t13⟩:=HX3.out.cells)) | (go_at_call 177;((with_reducible refine (HT3.out _).mono ?_);rintro e w4 ⟨rfl,h1⟩;have HY4:=Lib.hid (HY3.out.below h1 HY3.out.lt);have HX4:=Lib.hid (HX3.out.below h1 HX3.out.lt);have HB4:=Lib.hid (HB3.out.trans (h1.mono HB3.out.size));clear h1;obtain ⟨z0,z1,z2,z3,z4,z5,z6,z7,z8,z9,z10,z11,z12,z13⟩:=HY4.out.cells;obtain ⟨g0,g1,g2,g3,g4,g5,g6,g7,g8,g9,g10,g11,g12,g13⟩:=HY4.out.melts;obtain ⟨t0,t1,t2,t3,t4,t5,t6,t7,t8,t9,t10,t11,t12,t13⟩:=HX4.out.cells)))
  | fail
 all_goals go_wp2_with fail
 all_goals exact bodyPost_ret (out_nod (HY4.out.put14 ⟨0,0,⟨#[]⟩,n.ref,n.to,[]⟩ (.slice none 0 0)) _ _ _ 2 3 res_fields rfl rfl) rfl ⟨rfl,below_set14 HB4.out (by have:=HB.out.size;omega) _ _ _ _ _ _ _ _ _ _ _ _ _ _⟩
set_option maxRecDepth 100000 in
set_option maxHeartbeats 4000000 in
theorem fields_0a (w:World) (n:Nd) (h1:¬ n.kind=1) (h2:¬ n.kind=2) (h3:¬ n.kind=3) (h5:¬ n.kind=5) (h6:¬ n.kind=6) (h7:¬ n.kind=7) (h4:n.kind=4) (A:Option Addr) (m c:Nat):Calls Tryz.prog 141 #[.agg #[.int .i64 n.kind,.int .i64 n.num,.string n.text,.string n.ref.sh,.int .i64 n.ref.c,.int .i64 n.ref.r,.bool n.ref.ac,.bool n.ref.ar,.string n.to.sh,.int .i64 n.to.c,.int .i64 n.to.r,.bool n.to.ac,.bool n.to.ar,.slice A m c]] w fun e w'=>e = .returned (.tuple #[.agg (nodA Nd.zero (.slice none 0 0)),.bool true])∧Below w.heap.size w w':=by
 have hsz:(w.alloc (.cells #[.int .i64 n.kind,.int .i64 n.num,.string n.text,.string n.ref.sh,.int .i64 n.ref.c,.int .i64 n.ref.r,.bool n.ref.ac,.bool n.ref.ar,.string n.to.sh,.int .i64 n.to.c,.int .i64 n.to.r,.bool n.to.ac,.bool n.to.ar,.slice A m c] 140)).heap.size=w.heap.size+1:=by simp
 have hx:NdAt (w.alloc (.cells #[.int .i64 n.kind,.int .i64 n.num,.string n.text,.string n.ref.sh,.int .i64 n.ref.c,.int .i64 n.ref.r,.bool n.ref.ac,.bool n.ref.ar,.string n.to.sh,.int .i64 n.to.c,.int .i64 n.to.r,.bool n.to.ac,.bool n.to.ar,.slice A m c] 140)) w.heap.size n (.slice A m c):=NdAt.new w n _
 have hy:NdAt ((w.alloc (.cells #[.int .i64 n.kind,.int .i64 n.num,.string n.text,.string n.ref.sh,.int .i64 n.ref.c,.int .i64 n.ref.r,.bool n.ref.ac,.bool n.ref.ar,.string n.to.sh,.int .i64 n.to.c,.int .i64 n.to.r,.bool n.to.ac,.bool n.to.ar,.slice A m c] 140)).alloc (.cells zNod 140)) (w.heap.size+1) Nd.zero (.slice none 0 0):=by rw [← hsz];exact NdAt.new _ Nd.zero _
 have hx2:=hx.below ((Below.refl _ _).alloc (Nat.le_refl _) (.cells zNod 140)) hx.lt
 have HB:=Lib.hid (((Below.refl w.heap.size w).alloc (Nat.le_refl _) (.cells #[.int .i64 n.kind,.int .i64 n.num,.string n.text,.string n.ref.sh,.int .i64 n.ref.c,.int .i64 n.ref.r,.bool n.ref.ac,.bool n.ref.ar,.string n.to.sh,.int .i64 n.to.c,.int .i64 n.to.r,.bool n.to.ac,.bool n.to.ar,.slice A m c] 140)).alloc (by simp) (.cells zNod 140))
 have hb2:w.heap.size+1<((w.alloc (.cells #[.int .i64 n.kind,.int .i64 n.num,.string n.text,.string n.ref.sh,.int .i64 n.ref.c,.int .i64 n.ref.r,.bool n.ref.ac,.bool n.ref.ar,.string n.to.sh,.int .i64 n.to.c,.int .i64 n.to.r,.bool n.to.ac,.bool n.to.ar,.slice A m c] 140)).alloc (.cells zNod 140)).heap.size:=hy.lt
 have e1:(n.kind == 1)=false:=beq_eq_false_iff_ne.2 h1
 have e2:(n.kind == 2)=false:=beq_eq_false_iff_ne.2 h2
 have e3:(n.kind == 3)=false:=beq_eq_false_iff_ne.2 h3
 have e5:(n.kind == 5)=false:=beq_eq_false_iff_ne.2 h5
 have e6:(n.kind == 6)=false:=beq_eq_false_iff_ne.2 h6
 have e7:(n.kind == 7)=false:=beq_eq_false_iff_ne.2 h7
 clear h1 h2 h3 h5 h6 h7
 have e4:(n.kind == 4)=true:=beq_iff_eq.2 h4
 clear h4
 go_enter Tryz.func141,Tryz.ntmps141
 go_upto_region 14 with (fail)
 generalize (w.alloc (.cells #[.int .i64 n.kind,.int .i64 n.num,.string n.text,.string n.ref.sh,.int .i64 n.ref.c,.int .i64 n.ref.r,.bool n.ref.ac,.bool n.ref.ar,.string n.to.sh,.int .i64 n.to.c,.int .i64 n.to.r,.bool n.to.ac,.bool n.to.ar,.slice A m c] 140)).alloc (.cells zNod 140)=w1 at hx2 hy HB hb2 ⊢
 obtain ⟨x0,x1,x2,x3,x4,x5,x6,x7,x8,x9,x10,x11,x12,x13⟩:=hx2.cells
 obtain ⟨y0,y1,y2,y3,y4,y5,y6,y7,y8,y9,y10,y11,y12,y13⟩:=hy.cells
 obtain ⟨f0,f1,f2,f3,f4,f5,f6,f7,f8,f9,f10,f11,f12,f13⟩:=hy.melts
 have HY:=Lib.hid hy
 have HX:=Lib.hid hx2
 clear hx hx2 hy
 go_wp2_with (go_at_call 183;((with_reducible refine (isOfTwo_any _ _).mono ?_);rintro e w2 ⟨rfl,rfl⟩))
 all_goals exact bodyPost_ret (out_nod (HY.out.put14 Nd.zero (.slice none 0 0)) _ _ _ 2 3 res_fields rfl rfl) rfl ⟨rfl,below_set14 HB.out (by have:=HB.out.size;omega) _ _ _ _ _ _ _ _ _ _ _ _ _ _⟩
set_option maxRecDepth 100000 in
set_option maxHeartbeats 4000000 in
theorem fields_0b (w:World) (n:Nd) (h1:¬ n.kind=1) (h2:¬ n.kind=2) (h3:¬ n.kind=3) (h5:¬ n.kind=5) (h6:¬ n.kind=6) (h7:¬ n.kind=7) (h4:n.kind=8) (A:Option Addr) (m c:Nat):Calls Tryz.prog 141 #[.agg #[.int .i64 n.kind,.int .i64 n.num,.string n.text,.string n.ref.sh,.int .i64 n.ref.c,.int .i64 n.ref.r,.bool n.ref.ac,.bool n.ref.ar,.string n.to.sh,.int .i64 n.to.c,.int .i64 n.to.r,.bool n.to.ac,.bool n.to.ar,.slice A m c]] w fun e w'=>e = .returned (.tuple #[.agg (nodA Nd.zero (.slice none 0 0)),.bool true])∧Below w.heap.size w w':=by
 have hsz:(w.alloc (.cells #[.int .i64 n.kind,.int .i64 n.num,.string n.text,.string n.ref.sh,.int .i64 n.ref.c,.int .i64 n.ref.r,.bool n.ref.ac,.bool n.ref.ar,.string n.to.sh,.int .i64 n.to.c,.int .i64 n.to.r,.bool n.to.ac,.bool n.to.ar,.slice A m c] 140)).heap.size=w.heap.size+1:=by simp
 have hx:NdAt (w.alloc (.cells #[.int .i64 n.kind,.int .i64 n.num,.string n.text,.string n.ref.sh,.int .i64 n.ref.c,.int .i64 n.ref.r,.bool n.ref.ac,.bool n.ref.ar,.string n.to.sh,.int .i64 n.to.c,.int .i64 n.to.r,.bool n.to.ac,.bool n.to.ar,.slice A m c] 140)) w.heap.size n (.slice A m c):=NdAt.new w n _
 have hy:NdAt ((w.alloc (.cells #[.int .i64 n.kind,.int .i64 n.num,.string n.text,.string n.ref.sh,.int .i64 n.ref.c,.int .i64 n.ref.r,.bool n.ref.ac,.bool n.ref.ar,.string n.to.sh,.int .i64 n.to.c,.int .i64 n.to.r,.bool n.to.ac,.bool n.to.ar,.slice A m c] 140)).alloc (.cells zNod 140)) (w.heap.size+1) Nd.zero (.slice none 0 0):=by rw [← hsz];exact NdAt.new _ Nd.zero _
 have hx2:=hx.below ((Below.refl _ _).alloc (Nat.le_refl _) (.cells zNod 140)) hx.lt
 have HB:=Lib.hid (((Below.refl w.heap.size w).alloc (Nat.le_refl _) (.cells #[.int .i64 n.kind,.int .i64 n.num,.string n.text,.string n.ref.sh,.int .i64 n.ref.c,.int .i64 n.ref.r,.bool n.ref.ac,.bool n.ref.ar,.string n.to.sh,.int .i64 n.to.c,.int .i64 n.to.r,.bool n.to.ac,.bool n.to.ar,.slice A m c] 140)).alloc (by simp) (.cells zNod 140))
 have hb2:w.heap.size+1<((w.alloc (.cells #[.int .i64 n.kind,.int .i64 n.num,.string n.text,.string n.ref.sh,.int .i64 n.ref.c,.int .i64 n.ref.r,.bool n.ref.ac,.bool n.ref.ar,.string n.to.sh,.int .i64 n.to.c,.int .i64 n.to.r,.bool n.to.ac,.bool n.to.ar,.slice A m c] 140)).alloc (.cells zNod 140)).heap.size:=hy.lt
 have e1:(n.kind == 1)=false:=beq_eq_false_iff_ne.2 h1
 have e2:(n.kind == 2)=false:=beq_eq_false_iff_ne.2 h2
 have e3:(n.kind == 3)=false:=beq_eq_false_iff_ne.2 h3
 have e5:(n.kind == 5)=false:=beq_eq_false_iff_ne.2 h5
 have e6:(n.kind == 6)=false:=beq_eq_false_iff_ne.2 h6
 have e7:(n.kind == 7)=false:=beq_eq_false_iff_ne.2 h7
 clear h1 h2 h3 h5 h6 h7
 have e4:(n.kind == 4)=false:=by rw [h4];rfl
 have e8:(n.kind == 8)=true:=beq_iff_eq.2 h4
 clear h4
 go_enter Tryz.func141,Tryz.ntmps141
 go_upto_region 14 with (fail)
 generalize (w.alloc (.cells #[.int .i64 n.kind,.int .i64 n.num,.string n.text,.string n.ref.sh,.int .i64 n.ref.c,.int .i64 n.ref.r,.bool n.ref.ac,.bool n.ref.ar,.string n.to.sh,.int .i64 n.to.c,.int .i64 n.to.r,.bool n.to.ac,.bool n.to.ar,.slice A m c] 140)).alloc (.cells zNod 140)=w1 at hx2 hy HB hb2 ⊢
 obtain ⟨x0,x1,x2,x3,x4,x5,x6,x7,x8,x9,x10,x11,x12,x13⟩:=hx2.cells
 obtain ⟨y0,y1,y2,y3,y4,y5,y6,y7,y8,y9,y10,y11,y12,y13⟩:=hy.cells
 obtain ⟨f0,f1,f2,f3,f4,f5,f6,f7,f8,f9,f10,f11,f12,f13⟩:=hy.melts
 have HY:=Lib.hid hy
 have HX:=Lib.hid hx2
 clear hx hx2 hy
 go_wp2_with (go_at_call 183;((with_reducible refine (isOfTwo_any _ _).mono ?_);rintro e w2 ⟨rfl,rfl⟩))
 all_goals exact bodyPost_ret (out_nod (HY.out.put14 Nd.zero (.slice none 0 0)) _ _ _ 2 3 res_fields rfl rfl) rfl ⟨rfl,below_set14 HB.out (by have:=HB.out.size;omega) _ _ _ _ _ _ _ _ _ _ _ _ _ _⟩
set_option maxRecDepth 100000 in
set_option maxHeartbeats 4000000 in
theorem fields_0c (w:World) (n:Nd) (h1:¬ n.kind=1) (h2:¬ n.kind=2) (h3:¬ n.kind=3) (h5:¬ n.kind=5) (h6:¬ n.kind=6) (h7:¬ n.kind=7) (h4:¬ n.kind=4) (h8:¬ n.kind=8) (A:Option Addr) (m c:Nat):Calls Tryz.prog 141 #[.agg #[.int .i64 n.kind,.int .i64 n.num,.string n.text,.string n.ref.sh,.int .i64 n.ref.c,.int .i64 n.ref.r,.bool n.ref.ac,.bool n.ref.ar,.string n.to.sh,.int .i64 n.to.c,.int .i64 n.to.r,.bool n.to.ac,.bool n.to.ar,.slice A m c]] w fun e w'=>e = .returned (.tuple #[.agg (nodA Nd.zero (.slice none 0 0)),.bool (twoB n.kind)])∧Below w.heap.size w w':=by
 have hsz:(w.alloc (.cells #[.int .i64 n.kind,.int .i64 n.num,.string n.text,.string n.ref.sh,.int .i64 n.ref.c,.int .i64 n.ref.r,.bool n.ref.ac,.bool n.ref.ar,.string n.to.sh,.int .i64 n.to.c,.int .i64 n.to.r,.bool n.to.ac,.bool n.to.ar,.slice A m c] 140)).heap.size=w.heap.size+1:=by simp
 have hx:NdAt (w.alloc (.cells #[.int .i64 n.kind,.int .i64 n.num,.string n.text,.string n.ref.sh,.int .i64 n.ref.c,.int .i64 n.ref.r,.bool n.ref.ac,.bool n.ref.ar,.string n.to.sh,.int .i64 n.to.c,.int .i64 n.to.r,.bool n.to.ac,.bool n.to.ar,.slice A m c] 140)) w.heap.size n (.slice A m c):=NdAt.new w n _
 have hy:NdAt ((w.alloc (.cells #[.int .i64 n.kind,.int .i64 n.num,.string n.text,.string n.ref.sh,.int .i64 n.ref.c,.int .i64 n.ref.r,.bool n.ref.ac,.bool n.ref.ar,.string n.to.sh,.int .i64 n.to.c,.int .i64 n.to.r,.bool n.to.ac,.bool n.to.ar,.slice A m c] 140)).alloc (.cells zNod 140)) (w.heap.size+1) Nd.zero (.slice none 0 0):=by rw [← hsz];exact NdAt.new _ Nd.zero _
 have hx2:=hx.below ((Below.refl _ _).alloc (Nat.le_refl _) (.cells zNod 140)) hx.lt
 have HB:=Lib.hid (((Below.refl w.heap.size w).alloc (Nat.le_refl _) (.cells #[.int .i64 n.kind,.int .i64 n.num,.string n.text,.string n.ref.sh,.int .i64 n.ref.c,.int .i64 n.ref.r,.bool n.ref.ac,.bool n.ref.ar,.string n.to.sh,.int .i64 n.to.c,.int .i64 n.to.r,.bool n.to.ac,.bool n.to.ar,.slice A m c] 140)).alloc (by simp) (.cells zNod 140))
 have hb2:w.heap.size+1<((w.alloc (.cells #[.int .i64 n.kind,.int .i64 n.num,.string n.text,.string n.ref.sh,.int .i64 n.ref.c,.int .i64 n.ref.r,.bool n.ref.ac,.bool n.ref.ar,.string n.to.sh,.int .i64 n.to.c,.int .i64 n.to.r,.bool n.to.ac,.bool n.to.ar,.slice A m c] 140)).alloc (.cells zNod 140)).heap.size:=hy.lt
 have e1:(n.kind == 1)=false:=beq_eq_false_iff_ne.2 h1
 have e2:(n.kind == 2)=false:=beq_eq_false_iff_ne.2 h2
 have e3:(n.kind == 3)=false:=beq_eq_false_iff_ne.2 h3
 have e5:(n.kind == 5)=false:=beq_eq_false_iff_ne.2 h5
 have e6:(n.kind == 6)=false:=beq_eq_false_iff_ne.2 h6
 have e7:(n.kind == 7)=false:=beq_eq_false_iff_ne.2 h7
 clear h1 h2 h3 h5 h6 h7
 have e4:(n.kind == 4)=false:=beq_eq_false_iff_ne.2 h4
 have e8:(n.kind == 8)=false:=beq_eq_false_iff_ne.2 h8
 clear h4 h8
 go_enter Tryz.func141,Tryz.ntmps141
 go_upto_region 14 with (fail)
 generalize (w.alloc (.cells #[.int .i64 n.kind,.int .i64 n.num,.string n.text,.string n.ref.sh,.int .i64 n.ref.c,.int .i64 n.ref.r,.bool n.ref.ac,.bool n.ref.ar,.string n.to.sh,.int .i64 n.to.c,.int .i64 n.to.r,.bool n.to.ac,.bool n.to.ar,.slice A m c] 140)).alloc (.cells zNod 140)=w1 at hx2 hy HB hb2 ⊢
 obtain ⟨x0,x1,x2,x3,x4,x5,x6,x7,x8,x9,x10,x11,x12,x13⟩:=hx2.cells
 obtain ⟨y0,y1,y2,y3,y4,y5,y6,y7,y8,y9,y10,y11,y12,y13⟩:=hy.cells
 obtain ⟨f0,f1,f2,f3,f4,f5,f6,f7,f8,f9,f10,f11,f12,f13⟩:=hy.melts
 have HY:=Lib.hid hy
 have HX:=Lib.hid hx2
 clear hx hx2 hy
 go_wp2_with (go_at_call 183;((with_reducible refine (isOfTwo_any _ _).mono ?_);rintro e w2 ⟨rfl,rfl⟩))
 all_goals exact bodyPost_ret (out_nod (HY.out.put14 Nd.zero (.slice none 0 0)) _ _ _ 2 3 res_fields rfl rfl) rfl ⟨rfl,below_set14 HB.out (by have:=HB.out.size;omega) _ _ _ _ _ _ _ _ _ _ _ _ _ _⟩
set_option maxRecDepth 100000 in
theorem fields_any (w:World) (n:Nd) (hv:Vars w) (hs:n.text.size≤1000000) (hr:n.ref.sh.size≤1000000) (ht:n.to.sh.size≤1000000) (A:Option Addr) (m c:Nat) :
 Calls Tryz.prog 141 #[.agg #[.int .i64 n.kind,.int .i64 n.num,.string n.text,.string n.ref.sh,.int .i64 n.ref.c,.int .i64 n.ref.r,.bool n.ref.ac,.bool n.ref.ar,.string n.to.sh,.int .i64 n.to.c,.int .i64 n.to.r,.bool n.to.ac,.bool n.to.ar,.slice A m c]] w fun e w'=>e = .returned (.tuple #[.agg (nodA (namedN n) (.slice none 0 0)),.bool (okF n)])∧Below w.heap.size w w':=by
 by_cases h1:n.kind=1
 · have e1:namedN n={ Nd.zero with num:=n.num }:=by unfold namedN;rw [if_pos h1]
   have e2:okF n=decide (0≤n.num):=by unfold okF;rw [if_pos h1]
   rw [e1,e2];exact fields_1 n h1 A m c w
 by_cases h2:n.kind=2
 · have e1:namedN n={ Nd.zero with text:=n.text }:=by unfold namedN;rw [if_neg h1,if_pos h2]
   have e2:okF n=printB (sb n.text):=by unfold okF;rw [if_neg h1,if_pos h2]
   rw [e1,e2];exact fields_2 w n h2 hs A m c
 by_cases h3:n.kind=3
 · have e1:namedN n={ Nd.zero with num:=n.num }:=by unfold namedN;rw [if_neg h1,if_neg h2,if_pos h3]
   have e2:okF n=decide (n.num=0∨n.num=1):=by unfold okF;rw [if_neg h1,if_neg h2,if_pos h3]
   rw [e1,e2]
   by_cases k0:n.num=0
   · rw [decide_eq_true (Or.inl k0)];exact fields_3a w n h3 k0 A m c
   · by_cases k1:n.num=1
     · rw [decide_eq_true (Or.inr k1)];exact fields_3b w n h3 k1 A m c
     · have k:¬ (n.num=0∨n.num=1):=by omega
       rw [decide_eq_false k];exact fields_3c w n h3 k A m c
 by_cases h5:n.kind=5
 · have e1:namedN n={ Nd.zero with ref:=n.ref }:=by unfold namedN;rw [if_neg h1,if_neg h2,if_neg h3,if_pos h5]
   have e2:okF n=mayRf n.ref:=by unfold okF;rw [if_neg h1,if_neg h2,if_neg h3,if_pos h5]
   rw [e1,e2];exact fields_5 w n h5 hr A m c
 by_cases h6:n.kind=6
 · have e1:namedN n=⟨0,0,⟨#[]⟩,n.ref,n.to,[]⟩:=by unfold namedN;rw [if_neg h1,if_neg h2,if_neg h3,if_neg h5,if_pos h6]
   have e2:okF n=(mayRf n.ref&&(mayRf n.to&&spanB n.ref n.to)):=by unfold okF;rw [if_neg h1,if_neg h2,if_neg h3,if_neg h5,if_pos h6]
   rw [e1,e2]
   cases q1:mayRf n.ref
   · exact fields_6a w n h6 hr ht q1 A m c
   · cases q2:mayRf n.to
     · exact fields_6b w n h6 hr ht q1 q2 A m c
     · exact fields_6c w n h6 hr ht q1 q2 A m c
 by_cases h7:n.kind=7
 · have e1:namedN n={ Nd.zero with text:=n.text }:=by unfold namedN;rw [if_neg h1,if_neg h2,if_neg h3,if_neg h5,if_neg h6,if_pos h7]
   have e2:okF n=callB n.text:=by unfold okF;rw [if_neg h1,if_neg h2,if_neg h3,if_neg h5,if_neg h6,if_pos h7]
   rw [e1,e2];exact fields_7 w n h7 hv A m c
 have e1:namedN n=Nd.zero:=by unfold namedN;rw [if_neg h1,if_neg h2,if_neg h3,if_neg h5,if_neg h6,if_neg h7]
 have e2:okF n=(decide (n.kind=4∨n.kind=8)||twoB n.kind):=by unfold okF;rw [if_neg h1,if_neg h2,if_neg h3,if_neg h5,if_neg h6,if_neg h7]
 rw [e1,e2]
 by_cases h4:n.kind=4
 · rw [decide_eq_true (Or.inl h4),Bool.true_or];exact fields_0a w n h1 h2 h3 h5 h6 h7 h4 A m c
 · by_cases h8:n.kind=8
   · rw [decide_eq_true (Or.inr h8),Bool.true_or];exact fields_0b w n h1 h2 h3 h5 h6 h7 h8 A m c
   · rw [decide_eq_false (by omega),Bool.false_or];exact fields_0c w n h1 h2 h3 h5 h6 h7 h4 h8 A m c
def eqR (a b:Rf):Bool:=decide (a.sh=b.sh)&&(decide (a.c=b.c)&&(decide (a.r=b.r)&&((a.ac == b.ac)&&(a.ar == b.ar))))
theorem eqR_iff (a b:Rf):eqR a b=true↔a=b:=by
 unfold eqR
 simp only [Bool.and_eq_true,decide_eq_true_iff,beq_iff_eq]
 cases a;cases b
 simp
theorem eqR_of {a b:Rf} (h1:a.sh.toList=b.sh.toList) (h2:a.c=b.c) (h3:a.r=b.r) (h4:a.ac=b.ac) (h5:a.ar=b.ar):eqR a b=true:=by
 have hs:a.sh=b.sh:=by
  by_cases h:a.sh=b.sh
  · exact h
  · exact absurd h1 (text_ne _ _ h)
 rw [eqR_iff]
 cases a;cases b
 simp only at hs h2 h3 h4 h5
 rw [hs,h2,h3,h4,h5]
def isNd (n:Nd) (m:Nat):Bool:=okF n&&(hkB n.kind m&&(decide (n.num=(namedN n).num)&&(decide (n.text=(namedN n).text)&&(eqR n.ref (namedN n).ref&&eqR n.to (namedN n).to))))
set_option maxRecDepth 100000 in
set_option maxHeartbeats 4000000 in
theorem isNode_any (w:World) (n:Nd) (hv:Vars w) (hs:n.text.size≤1000000) (hr:n.ref.sh.size≤1000000) (ht:n.to.sh.size≤1000000) (A:Option Addr) (m c:Nat) (hm:m≤maxLen) :
 Calls Tryz.prog 108 #[.agg #[.int .i64 n.kind,.int .i64 n.num,.string n.text,.string n.ref.sh,.int .i64 n.ref.c,.int .i64 n.ref.r,.bool n.ref.ac,.bool n.ref.ar,.string n.to.sh,.int .i64 n.to.c,.int .i64 n.to.r,.bool n.to.ac,.bool n.to.ar,.slice A m c]] w fun e w'=>e = .returned (.bool (isNd n m))∧Below w.heap.size w w':=by
 obtain ⟨N,hN⟩:∃ N,namedN n=N:=⟨_,rfl⟩
 obtain ⟨ok,hok⟩:∃ ok,okF n=ok:=⟨_,rfl⟩
 obtain ⟨hk,hhk⟩:∃ hk,hkB n.kind m=hk:=⟨_,rfl⟩
 have HI:=Lib.hid (show isNd n m=(ok&&(hk&&(decide (n.num=N.num)&&(decide (n.text=N.text)&&(eqR n.ref N.ref&&eqR n.to N.to))))) by unfold isNd;rw [hN,hok,hhk])
 have HF:=Lib.hid (show ∀ w,Vars w→Calls Tryz.prog 141 #[.agg #[.int .i64 n.kind,.int .i64 n.num,.string n.text,.string n.ref.sh,.int .i64 n.ref.c,.int .i64 n.ref.r,.bool n.ref.ac,.bool n.ref.ar,.string n.to.sh,.int .i64 n.to.c,.int .i64 n.to.r,.bool n.to.ac,.bool n.to.ar,.slice A m c]] w fun e w'=>e = .returned (.tuple #[.agg #[.int .i64 N.kind,.int .i64 N.num,.string N.text,.string N.ref.sh,.int .i64 N.ref.c,.int .i64 N.ref.r,.bool N.ref.ac,.bool N.ref.ar,.string N.to.sh,.int .i64 N.to.c,.int .i64 N.to.r,.bool N.to.ac,.bool N.to.ar,.slice none 0 0],.bool ok])∧Below w.heap.size w w' from fun w hv=>by rw [← hN, ← hok];exact fields_any w n hv hs hr ht A m c)
 have HH:=Lib.hid (show ∀ w,Calls Tryz.prog 142 #[.agg #[.int .i64 n.kind,.int .i64 n.num,.string n.text,.string n.ref.sh,.int .i64 n.ref.c,.int .i64 n.ref.r,.bool n.ref.ac,.bool n.ref.ar,.string n.to.sh,.int .i64 n.to.c,.int .i64 n.to.r,.bool n.to.ac,.bool n.to.ar,.slice A m c]] w fun e w'=>e = .returned (.bool hk)∧Below w.heap.size w w' from fun w=>by rw [← hhk];exact hasKids_any n A m c hm w)
 have hx:NdAt (w.alloc (.cells #[.int .i64 n.kind,.int .i64 n.num,.string n.text,.string n.ref.sh,.int .i64 n.ref.c,.int .i64 n.ref.r,.bool n.ref.ac,.bool n.ref.ar,.string n.to.sh,.int .i64 n.to.c,.int .i64 n.to.r,.bool n.to.ac,.bool n.to.ar,.slice A m c] 140)) w.heap.size n (.slice A m c):=NdAt.new w n _
 have HB:=Lib.hid ((Below.refl w.heap.size w).alloc (Nat.le_refl _) (.cells #[.int .i64 n.kind,.int .i64 n.num,.string n.text,.string n.ref.sh,.int .i64 n.ref.c,.int .i64 n.ref.r,.bool n.ref.ac,.bool n.ref.ar,.string n.to.sh,.int .i64 n.to.c,.int .i64 n.to.r,.bool n.to.ac,.bool n.to.ar,.slice A m c] 140))
 have HV:=Lib.hid hv
 clear hN hok hhk hv
 go_enter Tryz.func108,Tryz.ntmps108
 go_upto_region 1 with (fail)
 generalize w.alloc (.cells #[.int .i64 n.kind,.int .i64 n.num,.string n.text,.string n.ref.sh,.int .i64 n.ref.c,.int .i64 n.ref.r,.bool n.ref.ac,.bool n.ref.ar,.string n.to.sh,.int .i64 n.to.c,.int .i64 n.to.r,.bool n.to.ac,.bool n.to.ar,.slice A m c] 140)=w1 at hx HB ⊢
 generalize hb0:w.heap.size=b0 at hx ⊢
 obtain ⟨x0,x1,x2,x3,x4,x5,x6,x7,x8,x9,x10,x11,x12,x13⟩:=hx.cells
 have HX:=Lib.hid hx
 clear hx
 go_upto_region 2 with (go_at_call 141;((with_reducible refine (HF.out _ (HV.out.below HB.out)).mono ?_);rintro e w2 ⟨rfl,h1⟩;have HX2:=Lib.hid (HX.out.below h1 HX.out.lt);have HB2:=Lib.hid (HB.out.trans (h1.mono HB.out.size));clear h1))
 have hB3:Below w2.heap.size w2 (w2.alloc (.cells #[.int .i64 N.kind,.int .i64 N.num,.string N.text,.string N.ref.sh,.int .i64 N.ref.c,.int .i64 N.ref.r,.bool N.ref.ac,.bool N.ref.ar,.string N.to.sh,.int .i64 N.to.c,.int .i64 N.to.r,.bool N.to.ac,.bool N.to.ar,.slice none 0 0] 140)):=(Below.refl _ _).alloc (Nat.le_refl _) _
 have hy:NdAt (w2.alloc (.cells #[.int .i64 N.kind,.int .i64 N.num,.string N.text,.string N.ref.sh,.int .i64 N.ref.c,.int .i64 N.ref.r,.bool N.ref.ac,.bool N.ref.ar,.string N.to.sh,.int .i64 N.to.c,.int .i64 N.to.r,.bool N.to.ac,.bool N.to.ar,.slice none 0 0] 140)) w2.heap.size N (.slice none 0 0):=NdAt.new w2 N _
 have HX3:=Lib.hid (HX2.out.below hB3 HX2.out.lt)
 have HB3:=Lib.hid (HB2.out.trans (hB3.mono HB2.out.size))
 clear hB3 x0 x1 x2 x3 x4 x5 x6 x7 x8 x9 x10 x11 x12 x13
 generalize hb3:w2.heap.size=b3 at hy ⊢
 generalize w2.alloc (.cells #[.int .i64 N.kind,.int .i64 N.num,.string N.text,.string N.ref.sh,.int .i64 N.ref.c,.int .i64 N.ref.r,.bool N.ref.ac,.bool N.ref.ar,.string N.to.sh,.int .i64 N.to.c,.int .i64 N.to.r,.bool N.to.ac,.bool N.to.ar,.slice none 0 0] 140)=w3 at hy HX3 HB3 ⊢
 clear hb3
 have HY3:=Lib.hid hy
 clear hy
 cases ok
 · obtain ⟨x0,x1,x2,x3,x4,x5,x6,x7,x8,x9,x10,x11,x12,x13⟩:=HX3.out.cells
   have HR:=Lib.hid (show isNd n m=false by rw [HI.out];rfl)
   go_wp2_with fail
   go_ret
   exact ⟨by rw [HR.out] <;> rfl,HB3.out⟩
 have go1:=HX3.out.cells
 obtain ⟨x0,x1,x2,x3,x4,x5,x6,x7,x8,x9,x10,x11,x12,x13⟩:=go1
 cases hk
 · have HR:=Lib.hid (show isNd n m=false by rw [HI.out];rfl)
   go_wp2_with (go_at_call 142;((with_reducible refine (HH.out _).mono ?_);rintro e w4 ⟨rfl,h1⟩;have HB4:=Lib.hid (HB3.out.trans (h1.mono HB3.out.size));clear h1))
   go_ret
   exact ⟨by rw [HR.out] <;> rfl,HB4.out⟩
 by_cases hnum:n.num=N.num
 rotate_left
 · have HR:=Lib.hid (show isNd n m=false by rw [HI.out,decide_eq_false hnum];rfl)
   have en:(n.num == N.num)=false:=beq_eq_false_iff_ne.2 hnum
   go_wp2_with (go_at_call 142;((with_reducible refine (HH.out _).mono ?_);rintro e w4 ⟨rfl,h1⟩;have HB4:=Lib.hid (HB3.out.trans (h1.mono HB3.out.size));obtain ⟨z0,z1,z2,z3,z4,z5,z6,z7,z8,z9,z10,z11,z12,z13⟩:=(HX3.out.below h1 HX3.out.lt).cells;obtain ⟨y0,y1,y2,y3,y4,y5,y6,y7,y8,y9,y10,y11,y12,y13⟩:=(HY3.out.below h1 HY3.out.lt).cells;clear h1))
   go_ret
   exact ⟨by rw [HR.out] <;> rfl,HB4.out⟩
 have en:(n.num == N.num)=true:=beq_iff_eq.2 hnum
 by_cases htx:n.text=N.text
 rotate_left
 · have HR:=Lib.hid (show isNd n m=false by rw [HI.out,decide_eq_true hnum,decide_eq_false htx];rfl)
   have et:(n.text.toList == N.text.toList)=false:=beq_eq_false_iff_ne.2 (text_ne _ _ htx)
   clear hnum htx
   go_wp2_with (go_at_call 142;((with_reducible refine (HH.out _).mono ?_);rintro e w4 ⟨rfl,h1⟩;have HB4:=Lib.hid (HB3.out.trans (h1.mono HB3.out.size));obtain ⟨z0,z1,z2,z3,z4,z5,z6,z7,z8,z9,z10,z11,z12,z13⟩:=(HX3.out.below h1 HX3.out.lt).cells;obtain ⟨y0,y1,y2,y3,y4,y5,y6,y7,y8,y9,y10,y11,y12,y13⟩:=(HY3.out.below h1 HY3.out.lt).cells;clear h1))
   go_ret
   exact ⟨by rw [HR.out] <;> rfl,HB4.out⟩
 have et:(n.text.toList == N.text.toList)=true:=by rw [htx];simp
 have HR:=Lib.hid (show isNd n m=(eqR n.ref N.ref&&eqR n.to N.to) by rw [HI.out,decide_eq_true hnum,decide_eq_true htx];rfl)
 clear hnum htx
 go_wp2_with (go_at_call 142;((with_reducible refine (HH.out _).mono ?_);rintro e w4 ⟨rfl,h1⟩;have HB4:=Lib.hid (HB3.out.trans (h1.mono HB3.out.size));obtain ⟨z0,z1,z2,z3,z4,z5,z6,z7,z8,z9,z10,z11,z12,z13⟩:=(HX3.out.below h1 HX3.out.lt).cells;obtain ⟨y0,y1,y2,y3,y4,y5,y6,y7,y8,y9,y10,y11,y12,y13⟩:=(HY3.out.below h1 HY3.out.lt).cells;clear h1))
 all_goals go_ret
 all_goals first
  | exact ⟨by rw [HR.out,eqR_of ‹n.ref.sh.toList=N.ref.sh.toList› ‹n.ref.c=N.ref.c› ‹n.ref.r=N.ref.r› ‹n.ref.ac=N.ref.ac› ‹n.ref.ar=N.ref.ar›,eqR_of ‹n.to.sh.toList=N.to.sh.toList› ‹n.to.c=N.to.c› ‹n.to.r=N.to.r› ‹n.to.ac=N.to.ac› ‹n.to.ar=N.to.ar›] <;> rfl,HB4.out⟩
  | (have key:(eqR n.ref N.ref&&eqR n.to N.to)=false:=by
      cases hq:(eqR n.ref N.ref&&eqR n.to N.to)
      · rfl
      · exfalso
        rw [Bool.and_eq_true,eqR_iff,eqR_iff] at hq
        obtain ⟨q1,q2⟩:=hq
        first
         | exact absurd (by rw [q1]) ‹¬ n.ref.sh.toList=N.ref.sh.toList›
         | exact absurd (by rw [q1]) ‹¬ n.ref.c=N.ref.c›
         | exact absurd (by rw [q1]) ‹¬ n.ref.r=N.ref.r›
         | exact absurd (by rw [q1]) ‹¬ n.ref.ac=N.ref.ac›
         | exact absurd (by rw [q1]) ‹¬ n.ref.ar=N.ref.ar›
         | exact absurd (by rw [q2]) ‹¬ n.to.sh.toList=N.to.sh.toList›
         | exact absurd (by rw [q2]) ‹¬ n.to.c=N.to.c›
         | exact absurd (by rw [q2]) ‹¬ n.to.r=N.to.r›
         | exact absurd (by rw [q2]) ‹¬ n.to.ac=N.to.ac›
         | exact absurd (by rw [q2]) ‹¬ n.to.ar=N.to.ar›
     exact ⟨by rw [HR.out,key] <;> rfl,HB4.out⟩)
theorem eqR_self (a:Rf):eqR a a=true:=(eqR_iff a a).2 rfl
theorem noRf_eq (r:Rf):noRf r=eqR r Rf.zero:=by
 obtain ⟨sh,c,r,ac,ar⟩:=r
 unfold noRf eqR Rf.zero
 simp only
 rw [Bool.eq_iff_iff]
 simp only [Bool.and_eq_true,decide_eq_true_iff,beq_iff_eq,Bool.not_eq_true']
 constructor
 · rintro ⟨⟨h1,h2,h3⟩,h4,h5⟩;exact ⟨h1,h2,h3,h4,h5⟩
 · rintro ⟨h1,h2,h3,h4,h5⟩;exact ⟨⟨h1,h2,h3⟩,h4,h5⟩
def ok2 (n:Nd):Bool :=
 if n.kind=1 then decide (0≤n.num) else if n.kind=2 then printB (sb n.text) else if n.kind=3 then decide (n.num=0∨n.num=1)
 else if n.kind=5 then mayRf n.ref else if n.kind=6 then mayRf n.ref&&(mayRf n.to&&spanB n.ref n.to) else if n.kind=7 then callB n.text else true
def cNum (n:Nd):Bool:=decide (n.kind=1∨n.kind=3∨n.num=0)
def cText (n:Nd):Bool:=decide (n.kind=2∨n.kind=7∨n.text=⟨#[]⟩)
def cRef (n:Nd):Bool:=decide (n.kind=5∨n.kind=6)||eqR n.ref Rf.zero
def cTo (n:Nd):Bool:=decide (n.kind=6)||eqR n.to Rf.zero
theorem named_cases (n:Nd):(n.kind=1∧namedN n={ Nd.zero with num:=n.num })∨(n.kind=2∧namedN n={ Nd.zero with text:=n.text })∨(n.kind=3∧namedN n={ Nd.zero with num:=n.num })∨(n.kind=5∧namedN n={ Nd.zero with ref:=n.ref })∨(n.kind=6∧namedN n=⟨0,0,⟨#[]⟩,n.ref,n.to,[]⟩)∨(n.kind=7∧namedN n={ Nd.zero with text:=n.text })∨(¬ n.kind=1∧¬ n.kind=2∧¬ n.kind=3∧¬ n.kind=5∧¬ n.kind=6∧¬ n.kind=7∧namedN n=Nd.zero):=by
 unfold namedN
 by_cases h1:n.kind=1
 · exact Or.inl ⟨h1,by rw [if_pos h1]⟩
 by_cases h2:n.kind=2
 · exact Or.inr <| Or.inl ⟨h2,by rw [if_neg h1,if_pos h2]⟩
 by_cases h3:n.kind=3
 · exact Or.inr <| Or.inr <| Or.inl ⟨h3,by rw [if_neg h1,if_neg h2,if_pos h3]⟩
 by_cases h5:n.kind=5
 · exact Or.inr <| Or.inr <| Or.inr <| Or.inl ⟨h5,by rw [if_neg h1,if_neg h2,if_neg h3,if_pos h5]⟩
 by_cases h6:n.kind=6
 · exact Or.inr <| Or.inr <| Or.inr <| Or.inr <| Or.inl ⟨h6,by rw [if_neg h1,if_neg h2,if_neg h3,if_neg h5,if_pos h6]⟩
 by_cases h7:n.kind=7
 · exact Or.inr <| Or.inr <| Or.inr <| Or.inr <| Or.inr <| Or.inl ⟨h7,by rw [if_neg h1,if_neg h2,if_neg h3,if_neg h5,if_neg h6,if_pos h7]⟩
 exact Or.inr <| Or.inr <| Or.inr <| Or.inr <| Or.inr <| Or.inr <| ⟨h1,h2,h3,h5,h6,h7,by rw [if_neg h1,if_neg h2,if_neg h3,if_neg h5,if_neg h6,if_neg h7]⟩
theorem named_num (n:Nd):decide (n.num=(namedN n).num)=cNum n:=by
 rcases named_cases n with ⟨h,e⟩ | ⟨h,e⟩ | ⟨h,e⟩ | ⟨h,e⟩ | ⟨h,e⟩ | ⟨h,e⟩ | ⟨h1,h2,h3,h5,h6,h7,e⟩
 · rw [e];unfold cNum;rw [show decide (n.num=n.num)=true from decide_eq_true rfl];symm;rw [decide_eq_true_iff];first | exact .inl h | exact .inr (.inl h)
 · rw [e];unfold cNum;show decide (n.num=0)=_;rw [decide_eq_decide];constructor
   · intro g;exact .inr (.inr g)
   · rintro (g | g | g)
     · omega
     · omega
     · exact g
 · rw [e];unfold cNum;rw [show decide (n.num=n.num)=true from decide_eq_true rfl];symm;rw [decide_eq_true_iff];first | exact .inl h | exact .inr (.inl h)
 · rw [e];unfold cNum;show decide (n.num=0)=_;rw [decide_eq_decide];constructor
   · intro g;exact .inr (.inr g)
   · rintro (g | g | g)
     · omega
     · omega
     · exact g
 · rw [e];unfold cNum;show decide (n.num=0)=_;rw [decide_eq_decide];constructor
   · intro g;exact .inr (.inr g)
   · rintro (g | g | g)
     · omega
     · omega
     · exact g
 · rw [e];unfold cNum;show decide (n.num=0)=_;rw [decide_eq_decide];constructor
   · intro g;exact .inr (.inr g)
   · rintro (g | g | g)
     · omega
     · omega
     · exact g
 · rw [e];unfold cNum;show decide (n.num=0)=_;rw [decide_eq_decide];constructor
   · intro g;exact .inr (.inr g)
   · rintro (g | g | g)
     · omega
     · omega
     · exact g
theorem named_text (n:Nd):decide (n.text=(namedN n).text)=cText n:=by
 rcases named_cases n with ⟨h,e⟩ | ⟨h,e⟩ | ⟨h,e⟩ | ⟨h,e⟩ | ⟨h,e⟩ | ⟨h,e⟩ | ⟨h1,h2,h3,h5,h6,h7,e⟩
 · rw [e];unfold cText;show decide (n.text=⟨#[]⟩)=_;rw [decide_eq_decide];constructor
   · intro g;exact .inr (.inr g)
   · rintro (g | g | g)
     · omega
     · omega
     · exact g
 · rw [e];unfold cText;rw [show decide (n.text=n.text)=true from decide_eq_true rfl];symm;rw [decide_eq_true_iff];first | exact .inl h | exact .inr (.inl h)
 · rw [e];unfold cText;show decide (n.text=⟨#[]⟩)=_;rw [decide_eq_decide];constructor
   · intro g;exact .inr (.inr g)
   · rintro (g | g | g)
     · omega
     · omega
     · exact g
 · rw [e];unfold cText;show decide (n.text=⟨#[]⟩)=_;rw [decide_eq_decide];constructor
   · intro g;exact .inr (.inr g)
   · rintro (g | g | g)
     · omega
     · omega
     · exact g
 · rw [e];unfold cText;show decide (n.text=⟨#[]⟩)=_;rw [decide_eq_decide];constructor
   · intro g;exact .inr (.inr g)
   · rintro (g | g | g)
     · omega
     · omega
     · exact g
 · rw [e];unfold cText;rw [show decide (n.text=n.text)=true from decide_eq_true rfl];symm;rw [decide_eq_true_iff];first | exact .inl h | exact .inr (.inl h)
 · rw [e];unfold cText;show decide (n.text=⟨#[]⟩)=_;rw [decide_eq_decide];constructor
   · intro g;exact .inr (.inr g)
   · rintro (g | g | g)
     · omega
     · omega
     · exact g
theorem named_ref (n:Nd):eqR n.ref (namedN n).ref=cRef n:=by
 rcases named_cases n with ⟨h,e⟩ | ⟨h,e⟩ | ⟨h,e⟩ | ⟨h,e⟩ | ⟨h,e⟩ | ⟨h,e⟩ | ⟨h1,h2,h3,h5,h6,h7,e⟩
 · rw [e];unfold cRef;show eqR n.ref Rf.zero=_;rw [decide_eq_false (by omega)];rfl
 · rw [e];unfold cRef;show eqR n.ref Rf.zero=_;rw [decide_eq_false (by omega)];rfl
 · rw [e];unfold cRef;show eqR n.ref Rf.zero=_;rw [decide_eq_false (by omega)];rfl
 · rw [e];unfold cRef;rw [show eqR n.ref n.ref=true from eqR_self _,decide_eq_true (by omega)];rfl
 · rw [e];unfold cRef;rw [show eqR n.ref n.ref=true from eqR_self _,decide_eq_true (by omega)];rfl
 · rw [e];unfold cRef;show eqR n.ref Rf.zero=_;rw [decide_eq_false (by omega)];rfl
 · rw [e];unfold cRef;show eqR n.ref Rf.zero=_;rw [decide_eq_false (by omega)];rfl
theorem named_to (n:Nd):eqR n.to (namedN n).to=cTo n:=by
 rcases named_cases n with ⟨h,e⟩ | ⟨h,e⟩ | ⟨h,e⟩ | ⟨h,e⟩ | ⟨h,e⟩ | ⟨h,e⟩ | ⟨h1,h2,h3,h5,h6,h7,e⟩
 · rw [e];unfold cTo;show eqR n.to Rf.zero=_;rw [decide_eq_false (by omega)];rfl
 · rw [e];unfold cTo;show eqR n.to Rf.zero=_;rw [decide_eq_false (by omega)];rfl
 · rw [e];unfold cTo;show eqR n.to Rf.zero=_;rw [decide_eq_false (by omega)];rfl
 · rw [e];unfold cTo;show eqR n.to Rf.zero=_;rw [decide_eq_false (by omega)];rfl
 · rw [e];unfold cTo;rw [show eqR n.to n.to=true from eqR_self _,decide_eq_true (by omega)];rfl
 · rw [e];unfold cTo;show eqR n.to Rf.zero=_;rw [decide_eq_false (by omega)];rfl
 · rw [e];unfold cTo;show eqR n.to Rf.zero=_;rw [decide_eq_false (by omega)];rfl
theorem leaf_eq (n:Nd):leafB n=((cNum n&&(cText n&&(cRef n&&cTo n)))&&ok2 n):=by
 unfold leafB cNum cText cRef cTo
 rw [noRf_eq,noRf_eq]
 have hk:(if n.kind=1 then decide (0≤n.num) else if n.kind=3 then decide (n.num=0∨n.num=1) else if n.kind=2 then printB (sb n.text) else if n.kind=7 then callB n.text else if n.kind=5 then mayRf n.ref else if n.kind=6 then mayRf n.ref&&(mayRf n.to&&spanB n.ref n.to) else true)=ok2 n:=by
  unfold ok2
  by_cases h1:n.kind=1
  · rw [if_pos h1,if_pos h1]
  by_cases h2:n.kind=2
  · rw [if_neg h1,if_neg (by omega),if_pos h2,if_neg h1,if_pos h2]
  by_cases h3:n.kind=3
  · rw [if_neg h1,if_pos h3,if_neg h1,if_neg h2,if_pos h3]
  by_cases h5:n.kind=5
  · rw [if_neg h1,if_neg h3,if_neg h2,if_neg (by omega),if_pos h5,if_neg h1,if_neg h2,if_neg h3,if_pos h5]
  by_cases h6:n.kind=6
  · rw [if_neg h1,if_neg h3,if_neg h2,if_neg (by omega),if_neg h5,if_pos h6,if_neg h1,if_neg h2,if_neg h3,if_neg h5,if_pos h6]
  by_cases h7:n.kind=7
  · rw [if_neg h1,if_neg h3,if_neg h2,if_pos h7,if_neg h1,if_neg h2,if_neg h3,if_neg h5,if_neg h6,if_pos h7]
  rw [if_neg h1,if_neg h3,if_neg h2,if_neg h7,if_neg h5,if_neg h6,if_neg h1,if_neg h2,if_neg h3,if_neg h5,if_neg h6,if_neg h7]
 rw [hk]
 by_cases q1:n.kind=1∨n.kind=3∨n.num=0
 · by_cases q2 : n.kind=2∨n.kind=7∨n.text=⟨#[]⟩
   · by_cases q3:n.kind=5∨n.kind=6
     · by_cases q4:n.kind=6
       · rw [decide_eq_true q1,decide_eq_true q2,decide_eq_true q3,decide_eq_true q4,if_neg]
         · rfl
         · rintro (g | g | g | g)
           · omega
           · rcases q2 with q | q | q
             · exact g.1 q
             · exact g.2.1 q
             · exact g.2.2 q
           · omega
           · omega
       · cases q5:eqR n.to Rf.zero
         · rw [if_pos (.inr (.inr (.inr ⟨q4,rfl⟩))),decide_eq_false q4,Bool.or_false,Bool.and_false,Bool.and_false,Bool.and_false];rfl
         · rw [decide_eq_true q1,decide_eq_true q2,decide_eq_true q3,decide_eq_false q4,if_neg]
           · rfl
           · rintro (g | g | g | g)
             · omega
             · rcases q2 with q | q | q
               · exact g.1 q
               · exact g.2.1 q
               · exact g.2.2 q
             · omega
             · cases g.2
     · cases q5 : eqR n.ref Rf.zero
       · rw [if_pos (.inr (.inr (.inl ⟨by omega,by omega,rfl⟩))),decide_eq_false q3,Bool.or_false,Bool.false_and,Bool.and_false,Bool.and_false];rfl
       · cases q6:eqR n.to Rf.zero
         · rw [if_pos (.inr (.inr (.inr ⟨by omega,rfl⟩))),decide_eq_false (show ¬ n.kind=6 by omega),Bool.or_false,Bool.and_false,Bool.and_false,Bool.and_false];rfl
         · rw [decide_eq_true q1,decide_eq_true q2,decide_eq_false q3,if_neg]
           · cases decide (n.kind=6) <;> rfl
           · rintro (g | g | g | g)
             · omega
             · rcases q2 with q | q | q
               · exact g.1 q
               · exact g.2.1 q
               · exact g.2.2 q
             · cases g.2.2
             · cases g.2
   · rw [if_pos (.inr (.inl ⟨fun h=>q2 (.inl h),fun h=>q2 (.inr (.inl h)),fun h=>q2 (.inr (.inr h))⟩)),decide_eq_false q2,Bool.false_and,Bool.and_false];rfl
 · rw [if_pos (.inl ⟨fun h=>q1 (.inl h),fun h=>q1 (.inr (.inl h)),fun h=>q1 (.inr (.inr h))⟩),decide_eq_false q1];rfl
theorem kids_eq (n:Nd) (m:Nat):(okF n&&hkB n.kind m)=(ok2 n&&(decide (armsN n.kind = -1)||decide (armsN n.kind=m))):=by
 have c0:decide ((0:Int)=(m:Int))=decide (m=0):=by rw [decide_eq_decide];omega
 have c1:decide ((1:Int)=(m:Int))=decide (m=1):=by rw [decide_eq_decide];omega
 have c2:decide ((2:Int)=(m:Int))=decide (m=2):=by rw [decide_eq_decide];omega
 have c3:decide ((-2:Int)=(m:Int))=false:=by rw [decide_eq_false_iff_not];omega
 unfold okF ok2 hkB armsN twoB
 by_cases h1:n.kind=1
 · rw [if_pos h1,if_pos h1,if_neg (show ¬ n.kind=7 by omega),if_neg (show ¬ n.kind=8 by omega),decide_eq_false (show ¬ (9≤n.kind∧n.kind≤19) by omega),if_pos (show 1≤n.kind∧n.kind≤6 by omega),c0];rfl
 by_cases h2:n.kind=2
 · rw [if_neg h1,if_pos h2,if_neg h1,if_pos h2,if_neg (show ¬ n.kind=7 by omega),if_neg (show ¬ n.kind=8 by omega),decide_eq_false (show ¬ (9≤n.kind∧n.kind≤19) by omega),if_pos (show 1≤n.kind∧n.kind≤6 by omega),c0];rfl
 by_cases h3:n.kind=3
 · rw [if_neg h1,if_neg h2,if_pos h3,if_neg h1,if_neg h2,if_pos h3,if_neg (show ¬ n.kind=7 by omega),if_neg (show ¬ n.kind=8 by omega),decide_eq_false (show ¬ (9≤n.kind∧n.kind≤19) by omega),if_pos (show 1≤n.kind∧n.kind≤6 by omega),c0];rfl
 by_cases h5:n.kind=5
 · rw [if_neg h1,if_neg h2,if_neg h3,if_pos h5,if_neg h1,if_neg h2,if_neg h3,if_pos h5,if_neg (show ¬ n.kind=7 by omega),if_neg (show ¬ n.kind=8 by omega),decide_eq_false (show ¬ (9≤n.kind∧n.kind≤19) by omega),if_pos (show 1≤n.kind∧n.kind≤6 by omega),c0];rfl
 by_cases h6:n.kind=6
 · rw [if_neg h1,if_neg h2,if_neg h3,if_neg h5,if_pos h6,if_neg h1,if_neg h2,if_neg h3,if_neg h5,if_pos h6,if_neg (show ¬ n.kind=7 by omega),if_neg (show ¬ n.kind=8 by omega),decide_eq_false (show ¬ (9≤n.kind∧n.kind≤19) by omega),if_pos (show 1≤n.kind∧n.kind≤6 by omega),c0];rfl
 by_cases h7:n.kind=7
 · rw [if_neg h1,if_neg h2,if_neg h3,if_neg h5,if_neg h6,if_pos h7,if_neg h1,if_neg h2,if_neg h3,if_neg h5,if_neg h6,if_pos h7,if_pos h7,if_neg (show ¬ (1≤n.kind∧n.kind≤6) by omega),if_pos h7];rfl
 rw [if_neg h1,if_neg h2,if_neg h3,if_neg h5,if_neg h6,if_neg h7,if_neg h1,if_neg h2,if_neg h3,if_neg h5,if_neg h6,if_neg h7,if_neg h7,Bool.true_and]
 by_cases h8:n.kind=8
 · rw [if_pos h8,if_neg (show ¬ (1≤n.kind∧n.kind≤6) by omega),if_neg h7,if_pos h8,c1,decide_eq_true (show n.kind=4∨n.kind=8 by omega)];rfl
 by_cases h9:9≤n.kind∧n.kind≤19
 · rw [if_neg h8,if_neg (show ¬ (1≤n.kind∧n.kind≤6) by omega),if_neg h7,if_neg h8,if_pos h9,c2,decide_eq_true h9,if_pos rfl,Bool.or_true];rfl
 by_cases h4:n.kind=4
 · rw [if_neg h8,if_pos (show 1≤n.kind∧n.kind≤6 by omega),c0,decide_eq_true (show n.kind=4∨n.kind=8 by omega),decide_eq_false h9];rfl
 rw [if_neg h8,if_neg (show ¬ (1≤n.kind∧n.kind≤6) by omega),if_neg h7,if_neg h8,if_neg h9,c3,decide_eq_false (show ¬ (n.kind=4∨n.kind=8) by omega),decide_eq_false h9];rfl
theorem isNd_eq (n:Nd):isNd n n.kids.length=nodeB n:=by
 unfold isNd nodeB
 rw [named_num,named_text,named_ref,named_to,leaf_eq]
 have h:=kids_eq n n.kids.length
 revert h
 generalize (decide (armsN n.kind = -1)||decide (armsN n.kind=n.kids.length))=d
 generalize hkB n.kind n.kids.length=c
 cases okF n <;> cases ok2 n <;> cases c <;> cases d <;> cases cNum n <;> cases cText n <;> cases cRef n <;> cases cTo n <;> simp
def SI (w:World) (B:Nat) (v:Value) (xs:List Int):Prop :=
 ∃ A cap,v = .slice A xs.length cap∧xs.length≤cap∧cap≤maxLen∧(xs=[]∨∃ pb po,A=some ⟨pb,po,none⟩∧pb<B∧∀ (j:Nat) (x:Int),xs[j]? = some x→w.cell? ⟨pb,po+j,none⟩=some (.int .i64 x))
theorem SI.below {w w':World} {B C:Nat} {v:Value} {xs:List Int} (h:SI w B v xs) (hb:Below C w w') (hC:B≤C):SI w' B v xs:=by
 obtain ⟨A,cap,h1,h2,h3,h4⟩:=h
 refine ⟨A,cap,h1,h2,h3,h4.imp id ?_⟩
 rintro ⟨pb,po,e1,e2,e3⟩
 exact ⟨pb,po,e1,e2,fun j x hj=>(hb.cell (p:=⟨pb,po+j,none⟩) (by show pb<C;omega)).trans (e3 j x hj)⟩
theorem SI.mono {w:World} {B C:Nat} {v:Value} {xs:List Int} (h:SI w B v xs) (hC:B≤C):SI w C v xs:=by
 obtain ⟨A,cap,h1,h2,h3,h4⟩:=h
 refine ⟨A,cap,h1,h2,h3,h4.imp id ?_⟩
 rintro ⟨pb,po,e1,e2,e3⟩
 exact ⟨pb,po,e1,by omega,e3⟩
theorem own_at {w:World} {base g n cap:Nat} {st:List Int} (h:Own (encInt .i64) 3 w base (.slice (some ⟨g,0,none⟩) n cap) st) (j:Nat) (x:Int) (hj:st[j]? = some x):w.cell? ⟨g,j,none⟩=some (.int .i64 x):=by
 have hl:=(List.getElem?_eq_some_iff.1 hj).1
 have h1:=Own.intCell h j hl
 rw [List.getD_eq_getElem?_getD,hj] at h1;exact h1
theorem SI.tail {w:World} {base g cap:Nat} {st:List Int} (h:Own (encInt .i64) 3 w base (.slice (some ⟨g,0,none⟩) st.length cap) st) (f:Nat) (hf:f≤st.length) (hc:st.length≤cap) (hm:cap≤maxLen) (hg:g<w.heap.size):SI w w.heap.size (.slice (if cap=f then some ⟨g,0,none⟩ else some ⟨g,f,none⟩) (st.length - f) (cap - f)) (st.drop f):=by
 refine ⟨_,_,by rw [List.length_drop],by rw [List.length_drop];omega,by omega, ?_⟩
 by_cases h0:st.drop f=[]
 · exact .inl h0
 · have hne:¬ cap=f:=fun e=>h0 (List.drop_of_length_le (by omega))
   refine .inr ⟨g,f,by rw [if_neg hne],hg,fun j x hj => ?_⟩
   rw [List.getElem?_drop] at hj
   exact own_at h (f+j) x hj
theorem own_take {w:World} {base g cap:Nat} {st:List Int} (h:Own (encInt .i64) 3 w base (.slice (some ⟨g,0,none⟩) st.length cap) st) (k:Nat) (hk:k≤st.length):Own (encInt .i64) 3 w base (.slice (some ⟨g,0,none⟩) k cap) (st.take k):=by
 have hl:(st.take k).length=k:=by rw [List.length_take];omega
 rcases h.2 with ⟨h1,_⟩ | ⟨g',cap',cur,h1,h2,h3,h4,h5,h6,h7⟩
 · cases h1
 · injection h1 with e1 e2 e3
   injection e1 with e1;injection e1 with e1
   subst e1;subst e3
   refine ⟨by rw [Enc.length_all],.inr ⟨g,cap,cur,by rw [hl],h2,h3,by omega,h5,h6, ?_⟩⟩
   rw [hl,all_encInt,List.map_take, ← all_encInt, ← h7,List.take_take,Nat.mul_one,Nat.mul_one]
   congr 1;omega
theorem take_snoc {xs ys:List Int} {k:Nat} {x:Int} (h:xs.take k=ys.take k) (hx:xs[k]? = some x) (hy:ys[k]? = some x):xs.take (k+1)=ys.take (k+1):=by
 rw [List.take_add_one,List.take_add_one,h,hx,hy]
set_option maxRecDepth 100000 in
set_option maxHeartbeats 1600000 in
theorem equal_any (w:World) (B:Nat) (v1 v2:Value) (xs ys:List Int) (h1:SI w B v1 xs) (h2:SI w B v2 ys):Calls Tryz.prog 107 #[v1,v2] w fun e w'=>e = .returned (.bool (decide (xs=ys)))∧Below w.heap.size w w':=by
 obtain ⟨A1,cap1,rfl,hc1,hm1,a1⟩:=h1
 obtain ⟨A2,cap2,rfl,hc2,hm2,a2⟩:=h2
 unfold maxLen at hm1 hm2
 obtain ⟨n1,hn1⟩:∃ n1,xs.length=n1:=⟨_,rfl⟩
 obtain ⟨n2,hn2⟩:∃ n2,ys.length=n2:=⟨_,rfl⟩
 rw [hn1] at hc1 ⊢
 rw [hn2] at hc2 ⊢
 by_cases hl:n1=n2
 · subst hl
   have HA1:=Lib.hid a1;have HA2:=Lib.hid a2;have HN1:=Lib.hid hn1;have HN2:=Lib.hid hn2
   clear a1 a2 hn1 hn2
   go_enter Tryz.func107,Tryz.ntmps107
   go_upto_region 4 with (fail)
   go_loopw [13] (fun i wr=>∃ (k m:Nat),k≤n1∧i = .int .i64 (k:Int)∧Hid (xs.take k=ys.take k)∧w.drewN m=wr)
    (fun i _=>n1 - (intOf i).toNat)
   case atStart=>exact ⟨0,0,Nat.zero_le _,rfl,Lib.hid rfl,rfl⟩
   case round =>
    obtain ⟨k,m,hk,rfl,HT,rfl⟩:=hrel
    by_cases hlt:k<n1
    · have hki:(k:Int)<(n1:Int):=by omega
      obtain ⟨x,hx⟩:∃ x,xs[k]? = some x:=⟨_,List.getElem?_eq_getElem (by rw [HN1.out];exact hlt)⟩
      obtain ⟨y,hy⟩:∃ y,ys[k]? = some y:=⟨_,List.getElem?_eq_getElem (by rw [HN2.out];exact hlt)⟩
      rcases HA1.out with e | ⟨p1,o1,rfl, -,c1⟩
      · exfalso;rw [e] at hx;simp at hx
      rcases HA2.out with e | ⟨p2,o2,rfl, -,c2⟩
      · exfalso;rw [e] at hy;simp at hy
      have k1:=c1 k x hx
      have k2:=c2 k y hy
      have HX:=Lib.hid hx;have HY:=Lib.hid hy
      clear c1 c2 hx hy
      by_cases hxy:x=y
      · have ex:(x != y)=false:=by rw [hxy];simp
        have HT2:=Lib.hid (take_snoc HT.out HX.out (by rw [hxy];exact HY.out))
        clear hxy
        go_wp2_with fail
        go_quiet (fail)
        go_wp2_with fail
        go_roundw
        case rel=>exact ⟨k+1,_,by omega,by go_num,HT2,by first | rfl | trivial⟩
        case measure=>simp [intOf];omega
      · have ex:(x != y)=true:=by rw [bne_iff_ne];exact hxy
        have HR:=Lib.hid (show ¬ xs=ys from fun e=>hxy (by have h1:=HX.out;rw [e,HY.out] at h1;exact (Option.some.inj h1).symm))
        clear hxy
        go_wp2_with fail
        go_quiet (fail)
        go_wp2_with fail
        go_ret
        exact ⟨by rw [decide_eq_false HR.out] <;> rfl,drew_below (drew_below (Below.refl _ _) m) nq⟩
    · have hki:¬ (k:Int)<(n1:Int):=by omega
      have HR:=Lib.hid (show xs=ys by
       have h1:=HT.out
       rw [List.take_of_length_le (by rw [HN1.out];omega),List.take_of_length_le (by rw [HN2.out];omega)] at h1
       exact h1)
      go_wp2_with fail
      go_ret
      exact ⟨by rw [decide_eq_true HR.out] <;> rfl,drew_below (Below.refl _ _) m⟩
 · have hne:((n1:Int) != (n2:Int))=true:=by rw [bne_iff_ne];omega
   have HR:=Lib.hid (show ¬ xs=ys from fun e=>hl (by rw [← hn1, ← hn2,e]))
   clear a1 a2 hn1 hn2
   go_enter Tryz.func107,Tryz.ntmps107
   go_wp2_with fail
   go_ret
   exact ⟨by rw [decide_eq_false HR.out] <;> rfl,Below.refl _ _⟩
set_option maxRecDepth 100000 in
set_option maxHeartbeats 1600000 in
theorem rankOf_any (k:Int) (w:World):Calls Tryz.prog 111 #[.int .i64 k] w fun e w'=>e = .returned (.int .i64 ((rankL k:Nat)+1:Int))∧w=w':=by
 have fin:∀ r:Nat,rankL k=r→(Calls Tryz.prog 111 #[.int .i64 k] w fun e w'=>e = .returned (.int .i64 ((r:Int)+1))∧w=w')→Calls Tryz.prog 111 #[.int .i64 k] w fun e w'=>e = .returned (.int .i64 ((rankL k:Nat)+1:Int))∧w=w':=fun r h1 h2=>by rw [h1];exact h2
 by_cases h9:k=9
 · refine fin 0 (by subst h9;rfl) ?_
   clear fin
   subst h9
   go_enter Tryz.func111,Tryz.ntmps111
   go_wp2_with fail
   go_ret
   exact ⟨rfl,rfl⟩
 by_cases h10:k=10
 · refine fin 0 (by subst h10;rfl) ?_
   clear fin
   subst h10
   go_enter Tryz.func111,Tryz.ntmps111
   go_wp2_with fail
   go_ret
   exact ⟨rfl,rfl⟩
 by_cases h11:k=11
 · refine fin 0 (by subst h11;rfl) ?_
   clear fin
   subst h11
   go_enter Tryz.func111,Tryz.ntmps111
   go_wp2_with fail
   go_ret
   exact ⟨rfl,rfl⟩
 by_cases h12:k=12
 · refine fin 0 (by subst h12;rfl) ?_
   clear fin
   subst h12
   go_enter Tryz.func111,Tryz.ntmps111
   go_wp2_with fail
   go_ret
   exact ⟨rfl,rfl⟩
 by_cases h13:k=13
 · refine fin 0 (by subst h13;rfl) ?_
   clear fin
   subst h13
   go_enter Tryz.func111,Tryz.ntmps111
   go_wp2_with fail
   go_ret
   exact ⟨rfl,rfl⟩
 by_cases h14:k=14
 · refine fin 0 (by subst h14;rfl) ?_
   clear fin
   subst h14
   go_enter Tryz.func111,Tryz.ntmps111
   go_wp2_with fail
   go_ret
   exact ⟨rfl,rfl⟩
 by_cases h15:k=15
 · refine fin 1 (by subst h15;rfl) ?_
   clear fin
   subst h15
   go_enter Tryz.func111,Tryz.ntmps111
   go_wp2_with fail
   go_ret
   exact ⟨rfl,rfl⟩
 by_cases h16:k=16
 · refine fin 2 (by subst h16;rfl) ?_
   clear fin
   subst h16
   go_enter Tryz.func111,Tryz.ntmps111
   go_wp2_with fail
   go_ret
   exact ⟨rfl,rfl⟩
 by_cases h17:k=17
 · refine fin 2 (by subst h17;rfl) ?_
   clear fin
   subst h17
   go_enter Tryz.func111,Tryz.ntmps111
   go_wp2_with fail
   go_ret
   exact ⟨rfl,rfl⟩
 by_cases h18:k=18
 · refine fin 3 (by subst h18;rfl) ?_
   clear fin
   subst h18
   go_enter Tryz.func111,Tryz.ntmps111
   go_wp2_with fail
   go_ret
   exact ⟨rfl,rfl⟩
 by_cases h19:k=19
 · refine fin 3 (by subst h19;rfl) ?_
   clear fin
   subst h19
   go_enter Tryz.func111,Tryz.ntmps111
   go_wp2_with fail
   go_ret
   exact ⟨rfl,rfl⟩
 by_cases h8:k=8
 · refine fin 4 (by subst h8;rfl) ?_
   clear fin
   subst h8
   go_enter Tryz.func111,Tryz.ntmps111
   go_wp2_with fail
   go_ret
   exact ⟨rfl,rfl⟩
 refine fin 5 (by unfold rankL;rw [if_neg (by omega),if_neg h15,if_neg (by omega),if_neg (by omega),if_neg h8]) ?_
 have e8:(k == 8)=false:=beq_eq_false_iff_ne.2 h8
 have e9:(k == 9)=false:=beq_eq_false_iff_ne.2 h9
 have e10:(k == 10)=false:=beq_eq_false_iff_ne.2 h10
 have e11:(k == 11)=false:=beq_eq_false_iff_ne.2 h11
 have e12:(k == 12)=false:=beq_eq_false_iff_ne.2 h12
 have e13:(k == 13)=false:=beq_eq_false_iff_ne.2 h13
 have e14:(k == 14)=false:=beq_eq_false_iff_ne.2 h14
 have e15:(k == 15)=false:=beq_eq_false_iff_ne.2 h15
 have e16:(k == 16)=false:=beq_eq_false_iff_ne.2 h16
 have e17:(k == 17)=false:=beq_eq_false_iff_ne.2 h17
 have e18:(k == 18)=false:=beq_eq_false_iff_ne.2 h18
 have e19:(k == 19)=false:=beq_eq_false_iff_ne.2 h19
 clear fin h8 h9 h10 h11 h12 h13 h14 h15 h16 h17 h18 h19
 go_enter Tryz.func111,Tryz.ntmps111
 go_wp2_with fail
 go_ret
 exact ⟨rfl,rfl⟩
def ptA (p:Pt):Array Value:=#[.string p.t,.int .i64 p.node,.int .i64 p.least]
theorem pt_one (p:Pt):∀ u∈(ptA p).toList,u.oneCell'=true:=by
 intro v hv
 simp only [ptA,List.mem_cons,List.not_mem_nil,or_false] at hv
 rcases hv with rfl | rfl | rfl <;> rfl
def encPt:Enc Pt 3:={ f:=fun p=>(ptA p).toList,len:=fun _=>rfl,one:=pt_one }
theorem pt_size:(Tryz.prog.info? 123).map (·.size)=some 3:=by kernel_rfl
def PtAt (w:World) (b:Nat) (p:Pt):Prop:=w.heap[b]? = some (.cells (ptA p) 123)
theorem PtAt.new (w:World) (p:Pt):PtAt (w.alloc (.cells (ptA p) 123)) w.heap.size p:=(Go.MapKept.heap_alloc w _).1
theorem out_pt {w:World} {b:Nat} {p:Pt} (h:PtAt w b p) (fn:Func) (tmps:Array Value) (s:Tmp) (hf:fn.results=#[.cell s 123]) (hp:tmps.getD s undef = .pointer (some ⟨b,0,none⟩)) :
 (results fn tmps).run Tryz.prog w = .ok (.agg (ptA p)) w :=
 results_cell_row hf tmps w b _ _ _ _ hp h Tryz.underlying123 rfl pt_size
theorem PtAt.cells {w:World} {b:Nat} {p:Pt} (h:PtAt w b p):w.cell? ⟨b,0,none⟩=some (.string p.t)∧w.cell? ⟨b,1,none⟩=some (.int .i64 p.node)∧w.cell? ⟨b,2,none⟩=some (.int .i64 p.least) :=
 ⟨by rw [cell_of_row w b 0 _ _ _ h];rfl,by rw [cell_of_row w b 1 _ _ _ h];rfl,by rw [cell_of_row w b 2 _ _ _ h];rfl⟩
theorem PtAt.melts {w:World} {b:Nat} {p:Pt} (h:PtAt w b p):w.frozen? ⟨b,0,none⟩=false∧w.frozen? ⟨b,1,none⟩=false∧w.frozen? ⟨b,2,none⟩=false:=⟨frozen_of_row w b 0 _ _ h,frozen_of_row w b 1 _ _ h,frozen_of_row w b 2 _ _ h⟩
theorem PtAt.put3 {w:World} {b:Nat} {p0:Pt} (h:PtAt w b p0) (p:Pt):PtAt (((w.setCell ⟨b,0,none⟩ (.string p.t)).setCell ⟨b,1,none⟩ (.int .i64 p.node)).setCell ⟨b,2,none⟩ (.int .i64 p.least)) b p:=by
 have h1:(w.setCell ⟨b,0,none⟩ (.string p.t)).heap[b]? = some (.cells #[.string p.t,.int .i64 p0.node,.int .i64 p0.least] 123):=by rw [heap_setCell_same w b 0 _ _ _ h];rfl
 have h2:((w.setCell ⟨b,0,none⟩ (.string p.t)).setCell ⟨b,1,none⟩ (.int .i64 p.node)).heap[b]? = some (.cells #[.string p.t,.int .i64 p.node,.int .i64 p0.least] 123):=by rw [heap_setCell_same _ b 1 _ _ _ h1];rfl
 unfold PtAt;rw [heap_setCell_same _ b 2 _ _ _ h2];rfl
theorem PtAt.keep {w w':World} {b:Nat} {p:Pt} (h:PtAt w b p) (hk:w'.heap[b]? = w.heap[b]?):PtAt w' b p:=by unfold PtAt;rw [hk];exact h
theorem Fb.ofB {w w':World} {b:Nat} (h:w.grownBy w' (some b)):Fb w w' b:=⟨h.os,h.tape,h.output,h.size,fun k hk hkb _=>h.block k hk (fun e=>hkb (Option.some.inj e))⟩
theorem grown3 {a w:World} {r:Option Nat} {z:Nat} (h:a.grownBy w r) (hz:a.heap.size≤z) (v0 v1 v2:Value):a.grownBy (((w.setCell ⟨z,0,none⟩ v0).setCell ⟨z,1,none⟩ v1).setCell ⟨z,2,none⟩ v2) r:=grownBy.setNew (grownBy.setNew (grownBy.setNew h ⟨z,0,none⟩ v0 hz) ⟨z,1,none⟩ v1 hz) ⟨z,2,none⟩ v2 hz
theorem res_plain:Tryz.f112.results=#[.cell 2 123]:=by kernel_rfl
theorem res_operand:Tryz.f78.results=#[.cell 4 123]:=by kernel_rfl
theorem res_pop:Tryz.f80.results=#[.cell 2 123]:=by kernel_rfl
set_option maxRecDepth 100000 in
set_option maxHeartbeats 1600000 in
theorem plain_any (t:ByteArray) (w:World):Calls Tryz.prog 112 #[.string t] w fun e w'=>e = .returned (.agg (ptA (Pt.plain t)))∧Below w.heap.size w w':=by
 have HN:=Lib.hid (PtAt.new w (Pt.plain t))
 have HB:=Lib.hid ((Below.refl w.heap.size w).alloc (Nat.le_refl _) (.cells (ptA (Pt.plain t)) 123))
 go_enter Tryz.func112,Tryz.ntmps112
 go_wp2_with fail
 exact bodyPost_ret (out_pt HN.out _ _ 2 res_plain rfl) rfl ⟨rfl,HB.out⟩
set_option maxRecDepth 100000 in
set_option maxHeartbeats 1600000 in
theorem operand_any (i m:Int) (w:World):Calls Tryz.prog 78 #[.int .i64 i,.int .i64 m] w fun e w'=>e = .returned (.agg (ptA (Pt.op i m)))∧Below w.heap.size w w':=by
 have HN:=Lib.hid (PtAt.new w (Pt.op i m))
 have HB:=Lib.hid ((Below.refl w.heap.size w).alloc (Nat.le_refl _) (.cells (ptA (Pt.op i m)) 123))
 go_enter Tryz.func78,Tryz.ntmps78
 go_wp2_with fail
 exact bodyPost_ret (out_pt HN.out _ _ 4 res_operand rfl) rfl ⟨rfl,HB.out⟩
def WQ (w:World) (b:Nat) (nv:Value) (st:List Pt) (txt:List Int):Prop:=∃ wv,WS w b nv wv txt∧Own encPt 123 w (b+1) wv st
theorem own_takeE {α : Type} {size:Nat} {E:Enc α size} {e:TypeId} {w:World} {base g cap:Nat} {st:List α} (h:Own E e w base (.slice (some ⟨g,0,none⟩) st.length cap) st) (k:Nat) (hk:k≤st.length):Own E e w base (.slice (some ⟨g,0,none⟩) k cap) (st.take k):=by
 have hl:(st.take k).length=k:=by rw [List.length_take];omega
 rcases h.2 with ⟨h1,_⟩ | ⟨g',cap',cur,h1,h2,h3,h4,h5,h6,h7⟩
 · cases h1
 · injection h1 with e1 e2 e3
   injection e1 with e1;injection e1 with e1
   subst e1;subst e3
   refine ⟨by rw [Enc.length_all],.inr ⟨g,cap,cur,by rw [hl],h2,h3,by omega,h5,h6, ?_⟩⟩
   have h8:(cur.toList.take (st.length*size)).take (k*size)=(E.all st).take (k*size):=by rw [h7]
   rw [List.take_take,Nat.min_eq_left (Nat.mul_le_mul_right _ hk)] at h8
   rw [hl,h8]
   conv=>lhs;rw [← List.take_append_drop k st,E.all_append]
   exact List.take_left' (by rw [E.length_all,hl])
set_option maxRecDepth 100000 in
set_option maxHeartbeats 1600000 in
theorem pop_any (w:World) (b:Nat) (nv:Value) (st:List Pt) (p:Pt) (txt:List Int) (h:WQ w b nv (st++[p]) txt) (hlen:st.length≤10000000000) :
 Calls Tryz.prog 80 #[.pointer (some ⟨b,0,none⟩)] w fun e w'=>e = .returned (.agg (ptA p))∧WQ w' b nv st txt∧Fb w w' b:=by
 obtain ⟨wv,⟨ad,bv,hw,had,ho,hby⟩,hq⟩:=h
 have hq0:=hq
 obtain ⟨g,cap,rfl,hbg,hgs,hnc,hcm⟩:=Own.some hq (by simp)
 have hlt:=hw.lt
 have hn:(st++[p]).length=st.length+1:=by simp
 obtain ⟨n,hst⟩:∃ n,st.length=n:=⟨_,rfl⟩
 have hx:(st++[p])[n]? = some p:=by rw [← hst];simp
 have k0:w.cell? ⟨g,n*3,none⟩=some (.string p.t):=Own.cells hq0 (n*3) _ (by have:=encPt.at (st++[p]) n 0 p hx (by omega);rw [Nat.add_zero] at this;rw [this];rfl)
 have k1:w.cell? ⟨g,n*3+1,none⟩=some (.int .i64 p.node):=Own.cells hq0 (n*3+1) _ (by rw [encPt.at (st++[p]) n 1 p hx (by omega)];rfl)
 have k2:w.cell? ⟨g,n*3+2,none⟩=some (.int .i64 p.least):=Own.cells hq0 (n*3+2) _ (by rw [encPt.at (st++[p]) n 2 p hx (by omega)];rfl)
 rw [hn,hst] at hq0 hnc hw
 have hg1:g<w.heap.size:=hgs
 have hn9:n≤10000000000:=by omega
 have hi1:(0:Int)≤(n:Int):=by omega
 have hi2:(n:Int)<(n:Int)+1:=by omega
 have hi3:n≤cap:=by omega
 have hi4:(n:Int)≤(cap:Int):=by omega
 obtain ⟨c0,c1,c2,c3⟩:=hw.facts
 have hB1:Below w.heap.size w (w.alloc (.cells #[.string ⟨#[]⟩,.int .i64 0,.int .i64 0] 123)):=(Below.refl _ _).alloc (Nat.le_refl _) _
 have HZ:=Lib.hid (show PtAt (w.alloc (.cells #[.string ⟨#[]⟩,.int .i64 0,.int .i64 0] 123)) w.heap.size (Pt.plain ⟨#[]⟩) from PtAt.new w (Pt.plain ⟨#[]⟩))
 have a1:=(hB1.cell (p:=⟨b,1,none⟩) hlt).trans c1
 have j0:=(hB1.cell (p:=⟨g,n*3,none⟩) hg1).trans k0
 have j1:=(hB1.cell (p:=⟨g,n*3+1,none⟩) hg1).trans k1
 have j2:=(hB1.cell (p:=⟨g,n*3+2,none⟩) hg1).trans k2
 have HB1:=Lib.hid hB1
 have HW:=Lib.hid hw;have HO:=Lib.hid ho;have HQ:=Lib.hid hq;have HBY:=Lib.hid hby
 have HST:=Lib.hid hst
 clear hB1 c0 c1 c2 c3 k0 k1 k2 hq0 hx hn hst hw ho hq hby hlen
 go_enter Tryz.func80,Tryz.ntmps80
 go_upto_region 1 with (fail)
 generalize hz:w.heap.size=z at HZ ⊢
 have hwz:w.heap.size≤z:=Nat.le_of_eq hz
 generalize (w.alloc (.cells #[.string ⟨#[]⟩,.int .i64 0,.int .i64 0] 123))=w1 at HZ HB1 a1 j0 j1 j2 ⊢
 clear hz
 have HHZP:=HZ
 go_upto_region 2 with (fail)
 have hB2:Below w1.heap.size w1 (w1.alloc (.cells #[.string p.t,.int .i64 p.node,.int .i64 p.least] 123)):=(Below.refl _ _).alloc (Nat.le_refl _) _
 have HP2:PtAt (w1.alloc (.cells #[.string p.t,.int .i64 p.node,.int .i64 p.least] 123)) w1.heap.size p:=PtAt.new w1 p
 have hb1:b<w1.heap.size:=Nat.lt_of_lt_of_le hlt HB1.out.size
 have a2:=(hB2.cell (p:=⟨b,1,none⟩) hb1).trans a1
 have HB2:=Lib.hid (HB1.out.trans (hB2.mono HB1.out.size))
 have HZ2:=Lib.hid (show PtAt (w1.alloc (.cells #[.string p.t,.int .i64 p.node,.int .i64 p.least] 123)) z (Pt.plain ⟨#[]⟩) from by
  unfold PtAt;rw [hB2.block z (Array.getElem?_eq_some_iff.1 HZ.out).1];exact HZ.out)
 clear hB2
 go_upto_region 3 with (fail)
 generalize hq2:w1.heap.size=q at HP2 ⊢
 generalize w1.alloc (.cells #[.string p.t,.int .i64 p.node,.int .i64 p.least] 123)=w2 at HP2 HB2 HZ2 a2 ⊢
 have hb2:b<w2.heap.size:=Nat.lt_of_lt_of_le hlt HB2.out.size
 have HW2:=Lib.hid (HW.out.below HB2.out hlt)
 have f1:=HW2.out.frozen 1
 clear a1 j0 j1 j2
 go_upto_region 4 with (fail)
 have HW3:=Lib.hid (HW2.out.put1 (.slice (some ⟨g,0,none⟩) n cap))
 have hqb:q≠b:=by have:=HB1.out.size;omega
 have hzb:z≠b:=by omega
 have hzq:z≠q:=by have:=(Array.getElem?_eq_some_iff.1 HHZP.out).1;omega
 have HP3:=HP2.keep (Below.heap_setCell w2 ⟨b,1,none⟩ (.slice (some ⟨g,0,none⟩) n cap) q hqb)
 have HZ3:=HZ2.out.keep (Below.heap_setCell w2 ⟨b,1,none⟩ (.slice (some ⟨g,0,none⟩) n cap) z hzb)
 have HG3:=Lib.hid (grownBy.setCell' (grownBy.below' (grownBy.refl' w (some b)) HB2.out) 1 (.slice (some ⟨g,0,none⟩) n cap))
 generalize w2.setCell ⟨b,1,none⟩ (.slice (some ⟨g,0,none⟩) n cap)=w3 at HW3 HP3 HZ3 HG3 ⊢
 obtain ⟨y0,y1,y2⟩:=HP3.cells
 obtain ⟨z0,z1,z2⟩:=HZ3.melts
 obtain ⟨u0,u1,u2⟩:=HZ3.cells
 have HZ4:=Lib.hid (HZ3.put3 p)
 have HG4:=Lib.hid (grown3 HG3.out hwz (.string p.t) (.int .i64 p.node) (.int .i64 p.least))
 have HW4:=Lib.hid (show WrAt (((w3.setCell ⟨z,0,none⟩ (.string p.t)).setCell ⟨z,1,none⟩ (.int .i64 p.node)).setCell ⟨z,2,none⟩ (.int .i64 p.least)) b nv (.slice (some ⟨g,0,none⟩) n cap) ad bv from by
  unfold WrAt
  rw [Below.heap_setCell _ ⟨z,2,none⟩ _ b (fun e=>hzb e.symm),Below.heap_setCell _ ⟨z,1,none⟩ _ b (fun e=>hzb e.symm),Below.heap_setCell _ ⟨z,0,none⟩ _ b (fun e=>hzb e.symm)]
  exact HW3.out)
 clear HP3 HZ3 f1
 go_wp2_with fail
 have hqt:=own_takeE HQ.out st.length (by simp)
 rw [List.take_left,HST.out] at hqt
 exact bodyPost_ret (out_pt HZ4.out _ _ 2 res_pop rfl) rfl ⟨rfl,⟨_,⟨ad,bv,HW4.out,had,Own.other HO.out HG4.out (Nat.lt_succ_self b),HBY.out⟩,Own.other hqt HG4.out (Nat.lt_succ_self b)⟩,Fb.ofB HG4.out⟩
end Go.Proofs.YtdphoaabaajonaaGreatDoor
namespace Go.Proofs.YtdphoaabaajonaaGreatDoor
open Go.RowKit Go.Shelf
attribute [local go_sem] Oper.semAt_some
def came (ps:List Pt) (q:Nat):List (Nat × Pt):=(List.range (ps.length - q)).map fun j=>(ps.length - 1 - j,ps.getD (ps.length - 1 - j) (Pt.plain ⟨#[]⟩))
theorem came_all (ps:List Pt):came ps ps.length=[]:=by unfold came;simp
theorem came_step (ps:List Pt) (m:Nat) (p:Pt) (hp:ps[m]? = some p):came ps m=came ps (m+1)++[(m,p)]:=by
 have hl:=(List.getElem?_eq_some_iff.1 hp).1
 unfold came
 rw [show ps.length - m=(ps.length - (m+1))+1 by omega,List.range_succ,List.map_append]
 show _++[(ps.length - 1 - (ps.length - (m+1)),_)]=_
 rw [show ps.length - 1 - (ps.length - (m+1))=m by omega,List.getD_eq_getElem?_getD,hp];rfl
theorem came_len (ps:List Pt) (q:Nat):(came ps q).length=ps.length - q:=by unfold came;simp
def Twos (x y:Nat) (w w':World):Prop:=w'.heap[x]? = w.heap[x]? ∧ w'.heap[y]? = w.heap[y]?
theorem Twos.refl (x y:Nat) (w:World):Twos x y w w:=⟨rfl,rfl⟩
theorem Twos.trans {x y:Nat} {a b c:World} (h:Twos x y a b) (k:Twos x y b c):Twos x y a c:=⟨k.1.trans h.1,k.2.trans h.2⟩
theorem Twos.cell1 {x y:Nat} {w w':World} (h:Twos x y w w') (j:Nat):w'.cell? ⟨x,j,none⟩=w.cell? ⟨x,j,none⟩:=World.cell?_of_block (a:=⟨x,j,none⟩) h.1
theorem Twos.cell2 {x y:Nat} {w w':World} (h:Twos x y w w') (j:Nat):w'.cell? ⟨y,j,none⟩=w.cell? ⟨y,j,none⟩:=World.cell?_of_block (a:=⟨y,j,none⟩) h.2
set_option maxRecDepth 100000 in
set_option maxHeartbeats 4000000 in
theorem back1_in (F:Fence) (n:Nat) (h7:F.fn 143) (hro:F.round=none) (hn:1≤n) (l Bs b cap:Nat) (ps:List Pt) (hlen:ps.length≤1000000000) (J Jx:List (Nat × Pt)→World→Prop)
 (hY:∀ pre x W,J pre W→pre.length<ps.length→YieldAt F (n - 1) Tryz.prog l #[.int .i64 (x.1:Int),.agg (ptA x.2)] W fun e W' =>
   (e = .returned (.bool true)∧J (pre++[x]) W'∧Twos Bs b W W')∨(e = .returned (.bool false)∧Jx (pre++[x]) W'))
 (W:World) (hBs:W.cell? ⟨Bs,0,none⟩=some (.slice (some ⟨b,0,none⟩) ps.length cap)) (hc:∀ m p,ps[m]? = some p→W.cell? ⟨b,m*3,none⟩=some (.string p.t)∧W.cell? ⟨b,m*3+1,none⟩=some (.int .i64 p.node)∧W.cell? ⟨b,m*3+2,none⟩=some (.int .i64 p.least)) (h0:J [] W) :
 CallsIn F n Tryz.prog 143 #[.func (.yield l) #[] #[],.pointer (some ⟨Bs,0,none⟩)] W fun e W'=>(∃ v,e = .returned v) ∧
  ((∃ ys,ys=came ps 0∧J ys W')∨(∃ pre,True∧Jx pre W')):=by
 obtain ⟨L,hL⟩:∃ L,ps.length=L:=⟨_,rfl⟩
 have HL:=Lib.hid hL
 rw [hL] at hlen hBs
 refine callsIn_of_wp Tryz.func143 rfl h7 ?_ hro
 simp only [Tryz.ntmps143,List.size_toArray,List.length_cons,List.length_nil,Nat.reduceAdd,Nat.reduceSub,Array.replicate_succ,Array.replicate_zero,List.push_toArray,List.append_toArray,List.nil_append,List.cons_append]
 gi_wp2
 gi_loopw [3] (fun i wr=>∃ q:Nat,q≤L∧i = .int .i64 ((q:Int) - 1)∧J (came ps q) wr∧Twos Bs b W wr)
  (fun i _=>(intOf i+1).toNat)
 case atStart=>exact ⟨L,Nat.le_refl _,rfl,by rw [← hL,came_all];exact h0,Twos.refl _ _ _⟩
 case round =>
  obtain ⟨q,hq,rfl,hJs,hnx⟩:=hrel
  have hBs':=(hnx.cell1 0).trans hBs
  cases q with
  | zero =>
    gi_wp2
    go_end0
    exact ⟨⟨_,rfl⟩,.inl ⟨_,rfl,hJs⟩⟩
  | succ m =>
    obtain ⟨p,hp⟩:∃ p,ps[m]? = some p:=⟨_,List.getElem?_eq_getElem (by omega)⟩
    obtain ⟨c0,c1,c2⟩:=hc m p hp
    have d0:=(hnx.cell2 (m*3)).trans c0
    have d1:=(hnx.cell2 (m*3+1)).trans c1
    have d2:=(hnx.cell2 (m*3+2)).trans c2
    have hst:=came_step ps m p hp
    obtain ⟨fn,tmps,assign,body,hy,hR⟩:=hY _ (m,p) wr hJs (by rw [came_len];omega)
    rw [← hst] at hR
    dsimp only [ptA] at hy
    have hm1:((m+1:Nat):Int) - 1=(m:Int):=by omega
    rw [hm1]
    have hmL:(m:Int)<(L:Int):=by omega
    have hm0:(0:Int)≤(m:Int):=by omega
    clear hm1 c0 c1 c2 hc hJs hst
    gi_wp2
    refine hR.mono ?_
    rintro e W3 (⟨rfl,hJ3,hk3⟩ | ⟨rfl,hJx3⟩)
    · gi_wp2
      go_roundw
      case rel=>exact ⟨m,by omega,by simp,hJ3,hnx.trans hk3⟩
      case measure=>simp [intOf]
    · gi_wp2
      refine bodyPost_ret (results_none rfl _ _ _) rfl ?_
      exact ⟨⟨_,rfl⟩,.inr ⟨_,trivial,hJx3⟩⟩
theorem backward_in (F:Fence) (n:Nat) (h5:F.fn 109) (hro:F.round=none) (a:Option Addr) (len cap:Nat) (w:World) :
 CallsIn F n Tryz.prog 109 #[.slice a len cap] w fun e w'=>e = .returned (.func (.func 143) #[] #[.pointer (some ⟨w.heap.size,0,none⟩)])∧w.alloc (.cells #[.slice a len cap] 115)=w':=by
 refine callsIn_of_wp Tryz.func109 rfl h5 ?_ hro
 simp only [Tryz.ntmps109,List.size_toArray,List.length_cons,List.length_nil,Nat.reduceAdd,Nat.reduceSub,Array.replicate_succ,Array.replicate_zero,List.push_toArray,List.append_toArray,List.nil_append,List.cons_append]
 gi_wp2
 go_ret
 exact ⟨rfl,rfl⟩
theorem back_stops (F:Fence) (n:Nat) (h7:F.fn 143) (hro:F.round=none) (hn:1≤n) (Bs b cap:Nat) (ps:List Pt) (hlen:ps.length≤1000000000) (w:World) (hB:Bs<w.heap.size) (hb:b<w.heap.size)
 (hBs:w.cell? ⟨Bs,0,none⟩=some (.slice (some ⟨b,0,none⟩) ps.length cap)) (hc:∀ m p,ps[m]? = some p→w.cell? ⟨b,m*3,none⟩=some (.string p.t)∧w.cell? ⟨b,m*3+1,none⟩=some (.int .i64 p.node)∧w.cell? ⟨b,m*3+2,none⟩=some (.int .i64 p.least)) :
 SeqStopsK F n Tryz.prog 143 #[.pointer (some ⟨Bs,0,none⟩)] (fun x:Nat × Pt=>#[Value.int .i64 (x.1:Int),.agg (ptA x.2)]) (Twos Bs b) (fun ys=>ys=came ps 0) (fun _=>True) ps.length w:=fun l J Jx W hW _ _ hY h0 =>
 back1_in F n h7 hro hn l Bs b cap ps hlen J Jx hY W ((hW.cell hB).trans hBs) (fun m p hp=>by
  obtain ⟨c0,c1,c2⟩:=hc m p hp
  exact ⟨(hW.cell (p:=⟨b,m*3,none⟩) hb).trans c0,(hW.cell (p:=⟨b,m*3+1,none⟩) hb).trans c1,(hW.cell (p:=⟨b,m*3+2,none⟩) hb).trans c2⟩) h0
theorem twosK_b {w:World} {x y:Nat} (hx:x<w.heap.size) (hy:y<w.heap.size) (W:World) (l:Nat) (o o':Obj) (hl:w.heap.size≤l) (h:W.heap[l]? = some o) (_:o.isCells=false) (_:o.isWalk=false):Twos x y W (W.putObj l o'):=by
 have hlt:=(Array.getElem?_eq_some_iff.1 h).1
 have hg:=grownBy_putObj' W l o'
 exact ⟨hg.block x (by omega) (fun e=>by have:=Option.some.inj e;omega),hg.block y (by omega) (fun e=>by have:=Option.some.inj e;omega)⟩
theorem came_rev:∀ (ps:List Pt) (q:Nat),q≤ps.length→(came ps q).map (·.2)=(ps.drop q).reverse:=by
 intro ps q
 induction h:ps.length - q generalizing q with
 | zero =>
   intro hq
   have:q=ps.length:=by omega
   subst this
   rw [came_all,List.drop_length];rfl
 | succ d ih =>
   intro hq
   obtain ⟨p,hp⟩:∃ p,ps[q]? = some p:=⟨_,List.getElem?_eq_getElem (by omega)⟩
   have hl:=(List.getElem?_eq_some_iff.1 hp).1
   rw [came_step ps q p hp,List.map_append,ih (q+1) (by omega) (by omega),List.drop_eq_getElem_cons hl,List.reverse_cons]
   have:ps[q]=p:=by rw [List.getElem?_eq_getElem hl] at hp;exact Option.some.inj hp
   rw [this];rfl
end Go.Proofs.YtdphoaabaajonaaGreatDoor
namespace Go.Proofs.YtdphoaabaajonaaGreatDoor
open Go.RowKit Go.Shelf
attribute [local go_sem] Oper.semAt_some
structure Fq (w w':World) (b:Nat):Prop where
 os:w'.os=w.os
 tape:w'.tape=w.tape
 output:w'.output=w.output
 size:w.heap.size≤w'.heap.size
 block:∀ k,k<w.heap.size→k≠b→(k<b∨∀ cur fr,w.heap[k]? ≠ some (.cells cur 5 fr)∧w.heap[k]? ≠ some (.cells cur 123 fr))→w'.heap[k]? = w.heap[k]?
theorem Fq.refl (w:World) (b:Nat):Fq w w b:=⟨rfl,rfl,rfl,Nat.le_refl _,fun _ _ _ _=>rfl⟩
theorem Fq.trans {w w1 w2:World} {b:Nat} (h:Fq w w1 b) (k:Fq w1 w2 b):Fq w w2 b :=
 ⟨k.os.trans h.os,k.tape.trans h.tape,k.output.trans h.output,Nat.le_trans h.size k.size,fun j hj hb hr=>by
  have h1:=h.block j hj hb hr
  rw [k.block j (Nat.lt_of_lt_of_le hj h.size) hb (hr.imp id fun hn cur fr=>by rw [h1];exact hn cur fr)]
  exact h1⟩
theorem Fq.ofB {w w':World} {b:Nat} (h:Fb w w' b):Fq w w' b:=⟨h.os,h.tape,h.output,h.size,fun k hk hb hr=>h.block k hk hb (hr.imp id fun hn cur fr=>(hn cur fr).1)⟩
theorem Fq.ofBelow {w w':World} {b:Nat} (h:Below w.heap.size w w'):Fq w w' b:=⟨h.os,h.tape,h.output,h.size,fun k hk _ _=>h.block k hk⟩
theorem Fq.stay {w A B:World} {row:Option Nat} {b:Nat} (h:Fq w A b) (hg:A.grownBy B row) (hr:∀ r,row=some r→w.heap.size≤r):Fq w B b :=
 ⟨hg.os.trans h.os,hg.tape.trans h.tape,hg.output.trans h.output,Nat.le_trans h.size hg.size,fun k hk hb h1=>by
  rw [hg.block k (Nat.lt_of_lt_of_le hk h.size) (fun e=>by have:=hr k e.symm;omega)]
  exact h.block k hk hb h1⟩
theorem cells_stay {A B:World} {row:Option Nat} (hg:A.grownBy B row) (hr:∀ r,row=some r→∃ o:Obj,A.heap[r]? = some o∧o.isCells=false) {x:Nat} {cs:Array Value} {t:TypeId} {fr:Nat × Nat} (h:A.heap[x]? = some (.cells cs t fr)):B.heap[x]? = some (.cells cs t fr):=by
 rw [hg.block x (Array.getElem?_eq_some_iff.1 h).1 (fun e=>by
  obtain ⟨o,ho,hc⟩:=hr x e.symm
  rw [h] at ho;cases ho;cases hc)]
 exact h
theorem ownStay {α : Type} {size:Nat} {E:Enc α size} {e:TypeId} {A B:World} {base:Nat} {v:Value} {xs:List α} (h:Own E e A base v xs) {row:Option Nat} (hg:A.grownBy B row) (hr:∀ r,row=some r→∃ o:Obj,A.heap[r]? = some o∧o.isCells=false):Own E e B base v xs:=by
 refine ⟨h.1, ?_⟩
 rcases h.2 with h | ⟨g,cap,cur,h1,h2,h3,h4⟩
 · exact .inl h
 · exact .inr ⟨g,cap,cur,h1,h2,cells_stay hg hr h3,h4⟩
theorem WS.stay {A B:World} {b:Nat} {nv wv:Value} {txt:List Int} (h:WS A b nv wv txt) {row:Option Nat} (hg:A.grownBy B row) (hr:∀ r,row=some r→∃ o:Obj,A.heap[r]? = some o∧o.isCells=false):WS B b nv wv txt:=by
 obtain ⟨ad,bv,h1,h2,h3,h4⟩:=h
 exact ⟨ad,bv,cells_stay hg hr h1,h2,ownStay h3 hg hr,h4⟩
def PushI (w:World) (b:Nat) (nv:Value) (st:List Pt) (txt:List Int) (lb:Nat) (pre:List (Nat × Pt)) (W:World):Prop :=
 (∃ wv,WS W b nv wv txt∧Own encPt 123 W (b+1) wv (st++pre.map (·.2))∧wv.ownBlock≠some lb)∧Boxed W w.heap.size 114 (.pointer (some ⟨b,0,none⟩))∧W.heap[lb]? = w.heap[lb]?
theorem PushI.below {w:World} {b:Nat} {nv:Value} {st:List Pt} {txt:List Int} {lb:Nat} {pre:List (Nat × Pt)} {W W':World} (h:PushI w b nv st txt lb pre W) (hb:Below W.heap.size W W') (hl:lb<W.heap.size):PushI w b nv st txt lb pre W':=by
 obtain ⟨⟨wv,h1,h2,h3⟩,h4,h5⟩:=h
 have h4':W.heap[w.heap.size]? = some (.cells #[.pointer (some ⟨b,0,none⟩)] 114):=h4
 exact ⟨⟨wv,h1.below hb,h2.below hb (Nat.le_refl _),h3⟩,(show W'.heap[w.heap.size]? = _ from (hb.block _ (Array.getElem?_eq_some_iff.1 h4').1).trans h4'),(hb.block lb hl).trans h5⟩
theorem pushI_own {w:World} {b:Nat} {nv:Value} {st:List Pt} {txt:List Int} {lb:Nat} {cs:Array Value} {fr:Nat × Nat} (hlb:w.heap[lb]? = some (.cells cs 123 fr)) (B:Nat):OwnFrom B (PushI w b nv st txt lb):=by
 rintro pre X Y row ⟨⟨wv,h1,h2,h3⟩,h4,h5⟩ hg hr
 have hr2:∀ r,row=some r→∃ o:Obj,X.heap[r]? = some o∧o.isCells=false:=fun r e=>(hr r e).2
 refine ⟨⟨wv,WS.stay h1 hg hr2,ownStay h2 hg hr2,h3⟩,boxed_own w.heap.size 114 (fun (_:Unit)=>Value.pointer (some ⟨b,0,none⟩)) () X Y row h4 hg hr2, ?_⟩
 rw [cells_stay hg hr2 (h5.trans hlb)];exact hlb.symm
end Go.Proofs.YtdphoaabaajonaaGreatDoor
namespace Go.Proofs.YtdphoaabaajonaaGreatDoor
open Go.RowKit
variable {P:Program} {ops:Array Oper} {md:Region.Mode} {l n:Nat}
def QN (N:Act→World→Prop):Exit→Act→World→Prop:=fun e a w=>e = .normal∧N a w
theorem qn_letsOut (N:Act→World→Prop):¬ LetsOut (QN N):=by
 rintro ⟨a,w,h,_⟩;cases h
theorem rows_in {row:String} {args:Array Value} {w:World} {R:Value→World→Prop} (h:Rows P row args w R):RowsIn (Fence.wide.inRound l) n P row args w R:=fun c cs _=>by
 obtain ⟨v,w',r,s⟩:=h c cs
 exact ⟨v,w',r,stepsIn_wide.2 s⟩
theorem upon_in {o:Oper} {a:Act} {K K':Act→World→Prop} (hK:∀ a w,K a w→K' a w) {Q:Exit→Act→World→Prop} {r:Result Next} (h:o.upon P a K (QN (Q .normal)) r):o.uponIn (Fence.wide.inRound l) n P a K' Q r:=by
 unfold Oper.upon at h
 split at h
 · exact hK _ _ h
 · exact hK _ _ h
 · exact hK _ _ h
 · refine ⟨fun hd=>(by cases hd),CallsIn.inRound l ((callsIn_wide.2 h).mono ?_)⟩
   rintro e w' he
   cases e with
   | returned v=>exact hK _ _ he
   | panicked c=>exact absurd he.1 (by intro h;cases h)
   | outgrown=>exact absurd he (qn_letsOut _)
 · exact ⟨fun hd=>(by cases hd),(rows_in h).mono fun v w' hv=>hK _ _ hv⟩
 · exact absurd h.1 (by intro h;cases h)
 · exact h.elim
theorem any_in {Q:Exit→Act→World→Prop} (hnd:∀ (i:Nat) (o:Oper),ops[i]? = some o→∀ c,o.op ≠ .defer c):∀ (fuel:Nat) (listed:Array Bool) (a:Act) (w:World),wpAny P md ops (QN (Q .normal)) fuel listed a w→wpAnyIn (Fence.wide.inRound l) n P md ops Q fuel listed a w
 | 0,_,_,_,h=>⟨h.1,h.2.2⟩
 | fuel + 1,listed,a,w,h=>by
   refine ⟨fun hr=>(h.1 hr).2,fun i hi => ?_⟩
   have hs:=h.2 i hi
   unfold wpOp at hs
   unfold wpOpIn
   cases ho:ops[i]? with
   | none=>rw [ho] at hs;exact any_in hnd fuel _ _ _ hs
   | some o =>
     rw [ho] at hs
     simp only at hs ⊢
     by_cases hw:Region.wanted o (yielded ops a.tmps)=true
     · rw [if_pos hw] at hs ⊢
       have hs:=hs.resolve_right (fun hx=>qn_letsOut _ hx.2)
       refine ⟨fun _ _=>trivial, ?_⟩
       rw [Oper.semAt_eq _ _ _ (hnd i o ho)]
       exact upon_in (fun a' w' h'=>any_in hnd fuel _ a' w' h') hs
     · rw [if_neg hw] at hs ⊢
       exact ⟨fun _ _=>trivial,any_in hnd fuel _ _ _ hs⟩
def noDef (ops:Array Oper):Bool:=ops.toList.all fun o=>match o.op with | .defer _=>false | _=>true
theorem noDef_spec {ops:Array Oper} (h:noDef ops=true) (i:Nat) (o:Oper) (ho:ops[i]? = some o):∀ c,o.op ≠ .defer c:=by
 intro c e
 unfold noDef at h
 rw [List.all_eq_true] at h
 have h2:=h o (by rw [← Array.getElem?_toList] at ho;exact List.mem_of_getElem? ho)
 rw [e] at h2;cases h2
theorem region_in {Q:Exit→Act→World→Prop} {id:Nat} {a:Act} {w:World} (hm:P.follows .mixedOrders=true) (hnd:noDef ops=true)
 (h:wpAny P .any ops (QN (Q .normal)) ops.size (Array.replicate ops.size false) a w.drew):(Code.region id ops true).wpIn (Fence.wide.inRound l) n P Q a w :=
 wpIn_region_any hm (any_in (fun i o ho=>noDef_spec hnd i o ho) _ _ _ _ h)
end Go.Proofs.YtdphoaabaajonaaGreatDoor
namespace Go.Proofs.YtdphoaabaajonaaGreatDoor
open Go.RowKit Go.Shelf
attribute [local go_sem] Oper.semAt_some
theorem Elem.part:Elem Tryz.prog 115 123 3 32:=⟨Tryz.underlying115,⟨.agg #[.string ⟨#[]⟩,.int .i64 0,.int .i64 0],by kernel_rfl,rfl⟩,by decide⟩
theorem app_run {P:Program} {α : Type} {size t e bytes:Nat} {w:World} (ty:TypeId) (EL:Elem P t e size bytes) (E:Enc α size) (base:Nat) (v:Value) (xs:List α) (hown:Own E e w base v xs) (ad:Addr) (m c:Nat) (ys:List α) (hl:ys.length=m)
 (hc:∀ (j:Nat) (u:Value),(E.all ys)[j]? = some u→w.cell? (ad.add j)=some u) (hb:(xs.length+m)*bytes≤140737488355328) (hb2:xs.length+m≤maxLen) (hbase:base≤w.heap.size) :
 ∃ v' w',(Builtin.append_ #[t,t] ty #[v,.slice (some ad) m c]).run P w = .ok v' w'∧Own E e w' base v' (xs++ys)∧w.grownBy w' v.ownBlock∧(v'.ownBlock=v.ownBlock∨v'.ownBlock=some w.heap.size):=by
 obtain ⟨z,hi,hz⟩:=EL.inf
 obtain ⟨i,hi1,hi2,hi3,hi4⟩:=info_parts hi
 obtain ⟨v',w',hrun,r1,r2,_,r4⟩:=run_append_own_at (P:=P) w base t ty e i z size bytes EL.und hi1 hi2 hi3 hi4 hz EL.pos v xs.length (E.all xs) hown ad m c (E.all ys) (by rw [E.length_all,hl]) hc (E.one_all ys) hb2 hb hbase
 refine ⟨v',w',hrun, ?_,r2,r4⟩
 unfold Own;rw [E.all_append,List.length_append,hl];exact r1
theorem wp_app_eq {P:Program} {t:TypeId} {w w':World} {o:Oper} {a:Act} {K:Act→World→Prop} {Q:Exit→Act→World→Prop} {v x v':Value} (s y:Operand) (ho:o.op = .call { callee := .builtin .append,args:=#[s,y],argTypes:=#[t,t] }) (hs:a.eval s=v) (hx:a.eval y=x)
 (hrun:(Builtin.append_ #[t,t] o.type #[v,x]).run P w = .ok v' w') (h:K (a.put o.dst v') w'):Oper.wp P o a w K Q:=by
 unfold Oper.wp
 simp [execOp,ho,resolve,invoke,builtin,hs,hx,hrun,Result.andThen]
 exact h
set_option maxRecDepth 100000 in
set_option maxHeartbeats 8000000 in
theorem push_any (w:World) (b:Nat) (nv:Value) (st ps:List Pt) (txt:List Int) (lb cap:Nat) (h:WQ w b nv st txt) (hps:Own encPt 123 w 0 (.slice (some ⟨lb,0,none⟩) ps.length cap) ps) (hne:∀ wv,WS w b nv wv txt→wv.ownBlock≠some lb) (hl1:ps.length≤1000000) (hl2:st.length≤2000000000) :
 Calls Tryz.prog 77 #[.pointer (some ⟨b,0,none⟩),.slice (some ⟨lb,0,none⟩) ps.length cap] w fun e w'=>e = .returned (.tuple #[])∧WQ w' b nv (st++ps.reverse) txt∧Fq w w' b:=by
 obtain ⟨wv,hws,hq⟩:=h
 have hwb:=hws.lt
 have hlt:lb<w.heap.size:=by
  rcases hps.2 with ⟨h1,_⟩ | ⟨g',cap',cur,h1,_,h3,_⟩
  · cases h1
  · injection h1 with e1;injection e1 with e1;injection e1 with e1;subst e1;exact (Array.getElem?_eq_some_iff.1 h3).1
 refine (callsIn_wide (n:=6)).1 ?_
 refine callsIn_of_wp_marks Tryz.func77 rfl trivial ?_ rfl
 simp only [Tryz.ntmps77,List.size_toArray,List.length_cons,List.length_nil,Nat.reduceAdd,Nat.reduceSub,Array.replicate_succ,Array.replicate_zero,List.push_toArray,List.append_toArray,List.nil_append,List.cons_append]
 gi_wp2_with (refine ⟨trivial, ?_⟩;gi_at_call 109;refine (backward_in Fence.wide _ trivial rfl _ _ _ _).mono ?_;rintro e w' ⟨rfl,rfl⟩)
 have bW:=(Boxed.new w 114 (.pointer (some ⟨b,0,none⟩))).alloc (.cells #[.slice (some ⟨lb,0,none⟩) ps.length cap] 115)
 have bS:=Boxed.new (w.alloc (.cells #[.pointer (some ⟨b,0,none⟩)] 114)) 115 (.slice (some ⟨lb,0,none⟩) ps.length cap)
 simp only [World.size_alloc] at bS
 have hB0:Below w.heap.size w ((w.alloc (.cells #[.pointer (some ⟨b,0,none⟩)] 114)).alloc (.cells #[.slice (some ⟨lb,0,none⟩) ps.length cap] 115)):=((Below.refl _ w).alloc (Nat.le_refl _) _).alloc (by simp) _
 have hsz:((w.alloc (.cells #[.pointer (some ⟨b,0,none⟩)] 114)).alloc (.cells #[.slice (some ⟨lb,0,none⟩) ps.length cap] 115)).heap.size=w.heap.size+2:=by simp
 obtain ⟨W0,hW0⟩:∃ W0,(w.alloc (.cells #[.pointer (some ⟨b,0,none⟩)] 114)).alloc (.cells #[.slice (some ⟨lb,0,none⟩) ps.length cap] 115)=W0:=⟨_,rfl⟩
 rw [hW0] at bW bS hB0 hsz ⊢
 clear hW0
 obtain ⟨lcs,lfr,hlrow⟩:∃ cs fr,w.heap[lb]? = some (.cells cs 123 fr):=by
  rcases hps.2 with ⟨h1,_⟩ | ⟨g',cap',cur,h1,_,h3,_⟩
  · cases h1
  · injection h1 with e1;injection e1 with e1;injection e1 with e1;subst e1;exact ⟨_,_,h3⟩
 have hcell:∀ m p,ps[m]? = some p→w.cell? ⟨lb,m*3,none⟩=some (.string p.t)∧w.cell? ⟨lb,m*3+1,none⟩=some (.int .i64 p.node)∧w.cell? ⟨lb,m*3+2,none⟩=some (.int .i64 p.least):=fun m p hp =>
  ⟨Own.cells hps (m*3) _ (by have:=encPt.at ps m 0 p hp (by omega);rw [Nat.add_zero] at this;rw [this];rfl),Own.cells hps (m*3+1) _ (by rw [encPt.at ps m 1 p hp (by omega)];rfl),Own.cells hps (m*3+2) _ (by rw [encPt.at ps m 2 p hp (by omega)];rfl)⟩
 refine wpIn_rangeFunc_ownH (F:=Fence.wide) (n:=6) rfl (by omega) (gf:=143) (lb:=#[.pointer (some ⟨w.heap.size+1,0,none⟩)]) rfl trivial (enters_of Tryz.func143 (by kernel_rfl) rfl)
  (back_stops Fence.wide 5 trivial rfl (by omega) (w.heap.size+1) lb cap ps (by omega) W0 (by omega) (by omega) bS.cell (fun m p hp=>⟨(hB0.cell (p:=⟨lb,m*3,none⟩) hlt).trans (hcell m p hp).1,(hB0.cell (p:=⟨lb,m*3+1,none⟩) hlt).trans (hcell m p hp).2.1,(hB0.cell (p:=⟨lb,m*3+2,none⟩) hlt).trans (hcell m p hp).2.2⟩))
  Twos.trans (twosK_b (by omega) (by omega)) (Below.refl _ _) (fun _=>rfl)
  (fun pre W=>PushI w b nv st txt lb pre W∧Fq w W b∧w.heap.size+2≤W.heap.size∧Boxed W (w.heap.size+1) 115 (.slice (some ⟨lb,0,none⟩) ps.length cap))
  (fun _ _ _=>False)
  ?hI (fun _ _ _ _ _ hs _ _=>hs) ?h0
  (fun x a' W=>∃ Bx,w.heap.size+1<Bx∧PtAt W Bx x.2∧(∃ wv ad bv,WrAt W b nv wv ad bv∧wv.ownBlock≠some Bx)∧a'={ tmps:=#[.pointer (some ⟨b,0,none⟩),.slice (some ⟨lb,0,none⟩) ps.length cap,.pointer (some ⟨w.heap.size,0,none⟩),undef,undef,.pointer (some ⟨Bx,0,none⟩),.slice (some ⟨lb,0,none⟩) ps.length cap,.func (.func 143) #[] #[.pointer (some ⟨w.heap.size+1,0,none⟩)],.int .i64 (x.1:Int),.agg (ptA x.2),undef,undef,undef,undef,undef,undef,undef,undef,undef,undef],defers:=[] })
  ?hAx ?assign ?body ?done ?stop
 case hI =>
  rintro pre X Y row ⟨h1,h2,h3,h4⟩ hg hr
  refine ⟨pushI_own hlrow _ pre X Y row h1 hg hr,h2.stay hg (fun r e=>by have:=(hr r e).1;omega),by have:=hg.size;omega,cells_stay hg (fun r e=>(hr r e).2) h4⟩
 case h0 =>
  refine ⟨⟨⟨wv,hws.below hB0,by rw [List.map_nil,List.append_nil];exact Own.below hq hB0 (Nat.le_refl _),hne wv hws⟩,bW,hB0.block lb hlt⟩,Fq.ofBelow hB0,by omega,bS⟩
 case hAx =>
  rintro x a' _ X Y row ⟨Bx,h1,h2,⟨wv2,ad2,bv2,h4,h5⟩,h3⟩ hg hr
  exact ⟨Bx,h1,cells_stay hg (fun r e=>(hr r e).2) h2,⟨wv2,ad2,bv2,cells_stay hg (fun r e=>(hr r e).2) h4,h5⟩,h3⟩
 case assign =>
  rintro l pre ⟨j,p⟩ W K ⟨hI,hF,hz,hbs⟩ hK
  dsimp only [ptA]
  gi_wp2
  have hal:Below W.heap.size W (W.alloc (.cells (ptA p) 123)):=(Below.refl _ _).alloc (Nat.le_refl _) _
  have newAx:∃ wv ad bv,WrAt (W.alloc (.cells (ptA p) 123)) b nv wv ad bv∧wv.ownBlock≠some W.heap.size:=by
   obtain ⟨⟨wv2,⟨ad2,bv2,g1,g2,g3,g4⟩,g5,g6⟩, -, -⟩:=hI
   exact ⟨wv2,ad2,bv2,g1.below hal g1.lt,fun e=>by have:=(Own.blockLt g5 _ e).2.1;omega⟩
  exact hK _ _ ((KeepsOthers.alloc _ _).from _) ⟨hal.block _ (by omega),hal.block _ (by omega)⟩ ⟨hI.below hal (by omega),hF.trans (Fq.ofBelow hal),by simp;omega,hbs.alloc _⟩ ⟨W.heap.size,by omega,PtAt.new W p,newAx,rfl⟩
 case body =>
  rintro l pre ⟨j,p⟩ a' W hl ⟨r,hr⟩ ⟨⟨⟨wv1,⟨ad,bv,hw1,had1,ho1,hby1⟩,hq1,hne1⟩,hbx,hlbs⟩,hF,hz,hbs⟩ ⟨Bx,hBx,hpt,⟨wv2,ad2,bv2,hw2',hneB⟩,rfl⟩ hlt2
  have hwe:wv2=wv1:=by
   have e:W.heap[b]? = some (.cells #[nv,wv1,ad,bv] 120):=hw1
   have e2:W.heap[b]? = some (.cells #[nv,wv2,ad2,bv2] 120):=hw2'
   rw [e] at e2;injection e2 with e2;injection e2 with e2;simp at e2;exact e2.1.symm
  subst hwe
  obtain ⟨c0,c1,c2,c3⟩:=hw1.facts
  have f1:=hw1.frozen 1
  have cB:=hbx.cell
  obtain ⟨y0,y1,y2⟩:=hpt.cells
  have hWb:=hw1.lt
  have hbW:b<w.heap.size:=hwb
  have hBxW:Bx<W.heap.size:=(Array.getElem?_eq_some_iff.1 hpt).1
  have hnl:(st++pre.map (·.2)).length≤3000000000:=by rw [List.length_append,List.length_map];omega
  have hq1':Own encPt 123 ((W.alloc (.cells #[.string p.t,.int .i64 p.node,.int .i64 p.least] 123)).drew) (b+1) wv2 (st++pre.map (·.2)):=(hq1.alloc _).drew
  obtain ⟨v',w',hrun,hown,hgr,hat⟩:=app_run 115 Elem.part encPt (b+1) wv2 _ hq1' ⟨W.heap.size,0,none⟩ 1 1 [p] rfl (fun j u hu=>cells_new (w:=W) _ _ _ rfl j u hu) (by omega) (by unfold maxLen;omega) (by simp;omega)
  have hgb:some b≠wv2.ownBlock:=fun e=>by have:=(Own.blockLt hq1 b e.symm).1;omega
  have hgw:some w.heap.size≠wv2.ownBlock:=fun e=>by
   obtain ⟨-, -,cur,hcur⟩:=Own.blockLt hq1 _ e.symm
   have h2:W.heap[w.heap.size]? = some (.cells #[.pointer (some ⟨b,0,none⟩)] 114):=hbx
   rw [h2] at hcur;injection hcur with hcur;injection hcur with _ ht;exact absurd ht (by decide)
  have hgB:some Bx≠wv2.ownBlock:=fun e=>hneB e.symm
  have kd:∀ (ad:Addr) {u:Value},ad.block<W.heap.size→some ad.block≠wv2.ownBlock→((W.alloc (.cells #[.string p.t,.int .i64 p.node,.int .i64 p.least] 123)).drew).cell? ad=some u→w'.cell? ad=some u:=fun ad u h1 h2 h3=>(World.cell?_of_block (hgr.block ad.block (by simp;omega) h2)).trans h3
  have hw2:WrAt w' b nv wv2 ad bv:=by
   unfold WrAt;rw [hgr.block b (by simp;omega) hgb];exact hw1.below ((Below.refl _ _).alloc (Nat.le_refl _) _).drew hw1.lt
  have hlbb:lb≠b:=fun e=>by
   have e1:W.heap[b]? = some (.cells #[nv,_,ad,bv] 120):=hw1
   rw [← e,hlbs,hlrow] at e1;injection e1 with e1;injection e1 with _ e2;exact absurd e2 (by decide)
  have hg1x:some (w.heap.size+1)≠wv2.ownBlock:=fun e=>by
   obtain ⟨-, -,cur,hcur⟩:=Own.blockLt hq1 _ e.symm
   have h2:W.heap[w.heap.size+1]? = some (.cells #[.slice (some ⟨lb,0,none⟩) ps.length cap] 115):=hbs
   rw [h2] at hcur;injection hcur with hcur;injection hcur with _ ht;exact absurd ht (by decide)
  have hsame:∀ k,k<W.heap.size→some k≠wv2.ownBlock→w'.heap[k]? = W.heap[k]? := fun k h1 h2=>(hgr.block k (by simp;omega) h2).trans (((Below.refl W.heap.size W).alloc (Nat.le_refl _) (.cells #[.string p.t,.int .i64 p.node,.int .i64 p.least] 123)).drew.block k h1)
  have hbv8:Own8 w' (b+1) bv txt:=Own.keep ho1 fun g hg1 hg2 hg3=>hsame g hg2 (fun e=>by
   obtain ⟨-, -,cur,hcur⟩:=Own.blockLt hq1 _ e.symm
   obtain ⟨-,cur2,fr2,hcur2⟩:=own_row8 ho1 g hg3
   rw [hcur2] at hcur;injection hcur with hcur;injection hcur with _ ht;exact absurd ht (by decide))
  have hsz':W.heap.size≤w'.heap.size:=by have:=hgr.size;simp at this;omega
  have hke:KeepsOthers W w':=((KeepsOthers.alloc W (.cells #[.string p.t,.int .i64 p.node,.int .i64 p.least] 123)).trans (KeepsOthers.drew _)).trans (KeepsOthers.of_grownBy hgr (fun j o hj ho=>by
   obtain ⟨-, -,cur,hcur⟩:=Own.blockLt hq1' _ hj
   rw [hcur] at ho;cases ho;rfl))
  have hfq:Fq W w' b:=⟨hgr.os,hgr.tape,hgr.output,hsz',fun k hk hkb hr=>hsame k hk (fun e=>by
   obtain ⟨h1, -,cur,hcur⟩:=Own.blockLt hq1 _ e.symm
   rcases hr with hr | hr
   · omega
   · exact (hr cur _).2 hcur)⟩
  have hnl2:∀ v2:Value,(v2.ownBlock=wv2.ownBlock∨v2.ownBlock=some ((W.alloc (.cells #[.string p.t,.int .i64 p.node,.int .i64 p.least] 123)).drew).heap.size)→v2.ownBlock≠some lb:=fun v2 h e=>by
   rcases h with h | h
   · rw [h] at e;exact hne1 e
   · rw [h] at e;have:=Option.some.inj e;simp at this;omega
  obtain ⟨ao,n1,cap1,rfl⟩:=own_slice hq1
  obtain ⟨ao',n2,cap2,rfl⟩:=own_slice hown
  have HRUN:=Lib.hid hrun
  have hmx:Tryz.prog.follows .mixedOrders=true:=by kernel_rfl
  clear hrun
  dsimp only at y0 y1 y2
  have hal:Below W.heap.size W ((W.alloc (.cells #[.string p.t,.int .i64 p.node,.int .i64 p.least] 123)).drew):=((Below.refl _ _).alloc (Nat.le_refl _) _).drew
  gi_wp2
  have BE:KeepsFrom (w.heap.size+2) W (w'.setCell ⟨b,1,none⟩ (.slice ao' n2 cap2))∧Twos (w.heap.size+1) lb W (w'.setCell ⟨b,1,none⟩ (.slice ao' n2 cap2))∧(PushI w b nv st txt lb (pre++[(j,p)]) (w'.setCell ⟨b,1,none⟩ (.slice ao' n2 cap2))∧Fq w (w'.setCell ⟨b,1,none⟩ (.slice ao' n2 cap2)) b∧w.heap.size+2≤(w'.setCell ⟨b,1,none⟩ (.slice ao' n2 cap2)).heap.size∧Boxed (w'.setCell ⟨b,1,none⟩ (.slice ao' n2 cap2)) (w.heap.size+1) 115 (.slice (some ⟨lb,0,none⟩) ps.length cap)):=by
   have gs:=grownBy.setCell' (grownBy.refl' w' (some b)) 1 (.slice ao' n2 cap2)
   have s1:(w'.setCell ⟨b,1,none⟩ (.slice ao' n2 cap2)).heap[w.heap.size+1]? = W.heap[w.heap.size+1]? := (Below.heap_setCell w' ⟨b,1,none⟩ _ _ (by show w.heap.size+1≠b;omega)).trans (hsame _ (by omega) hg1x)
   have s0:(w'.setCell ⟨b,1,none⟩ (.slice ao' n2 cap2)).heap[w.heap.size]? = W.heap[w.heap.size]? := (Below.heap_setCell w' ⟨b,1,none⟩ _ _ (by show w.heap.size≠b;omega)).trans (hsame _ (by omega) hgw)
   have sl:(w'.setCell ⟨b,1,none⟩ (.slice ao' n2 cap2)).heap[lb]? = W.heap[lb]? := (Below.heap_setCell w' ⟨b,1,none⟩ _ _ hlbb).trans (hsame _ (by omega) (fun e=>hne1 e.symm))
   refine ⟨(hke.trans (KeepsOthers.setCell _ _ _)).from _,⟨s1,sl⟩,⟨⟨.slice ao' n2 cap2,⟨ad,bv,hw2.put1 _,had1,Own.other hbv8 gs (Nat.lt_succ_self b),hby1⟩, ?_,hnl2 _ hat⟩,s0.trans hbx,sl.trans hlbs⟩,(hF.trans hfq).trans (Fq.ofB (Fb.ofB gs)),by have:=gs.size;omega,s1.trans hbs⟩
   rw [List.map_append, ← List.append_assoc]
   exact Own.other hown gs (Nat.lt_succ_self b)
  have HS3:(fun w'=>w'.cell? ⟨w.heap.size,0,none⟩=some (.pointer (some ⟨b,0,none⟩))∧w'.cell? ⟨Bx,0,none⟩=some (.string p.t)∧w'.cell? ⟨Bx,1,none⟩=some (.int .i64 p.node)∧w'.cell? ⟨Bx,2,none⟩=some (.int .i64 p.least)) (w'.setCell ⟨b,1,none⟩ (.slice ao' n2 cap2)):=by
   have gs:=grownBy.setCell' (grownBy.refl' w' (some b)) 1 (.slice ao' n2 cap2)
   have kc:∀ (ad:Addr) {u:Value},ad.block<W.heap.size→ad.block≠b→w'.cell? ad=some u→(w'.setCell ⟨b,1,none⟩ (.slice ao' n2 cap2)).cell? ad=some u:=fun ad u h0 h1 h2=>(World.cell?_of_block (Below.heap_setCell w' ⟨b,1,none⟩ _ ad.block h1)).trans h2
   exact ⟨kc ⟨w.heap.size,0,none⟩ (by show w.heap.size<_;omega) (by show w.heap.size≠b;omega) (kd ⟨w.heap.size,0,none⟩ (by show w.heap.size<_;omega) hgw ((hal.cell (p:=⟨w.heap.size,0,none⟩) (show w.heap.size<W.heap.size by omega)).trans cB)),kc ⟨Bx,0,none⟩ hBxW (by show Bx≠b;omega) (kd ⟨Bx,0,none⟩ hBxW hgB ((hal.cell (p:=⟨Bx,0,none⟩) hBxW).trans y0)),kc ⟨Bx,1,none⟩ hBxW (by show Bx≠b;omega) (kd ⟨Bx,1,none⟩ hBxW hgB ((hal.cell (p:=⟨Bx,1,none⟩) hBxW).trans y1)),kc ⟨Bx,2,none⟩ hBxW (by show Bx≠b;omega) (kd ⟨Bx,2,none⟩ hBxW hgB ((hal.cell (p:=⟨Bx,2,none⟩) hBxW).trans y2))⟩
  have HS0:(fun w'=>w'.cell? ⟨w.heap.size,0,none⟩=some (.pointer (some ⟨b,0,none⟩))∧w'.cell? ⟨Bx,0,none⟩=some (.string p.t)∧w'.cell? ⟨Bx,1,none⟩=some (.int .i64 p.node)∧w'.cell? ⟨Bx,2,none⟩=some (.int .i64 p.least)) W.drew:=⟨cB,y0,y1,y2⟩
  have HS1:(fun w'=>w'.cell? ⟨w.heap.size,0,none⟩=some (.pointer (some ⟨b,0,none⟩))∧w'.cell? ⟨Bx,0,none⟩=some (.string p.t)∧w'.cell? ⟨Bx,1,none⟩=some (.int .i64 p.node)∧w'.cell? ⟨Bx,2,none⟩=some (.int .i64 p.least)) ((W.alloc (.cells #[.string p.t,.int .i64 p.node,.int .i64 p.least] 123)).drew):=⟨(hal.cell (p:=⟨w.heap.size,0,none⟩) (show w.heap.size<W.heap.size by omega)).trans cB,(hal.cell (p:=⟨Bx,0,none⟩) hBxW).trans y0,(hal.cell (p:=⟨Bx,1,none⟩) hBxW).trans y1,(hal.cell (p:=⟨Bx,2,none⟩) hBxW).trans y2⟩
  refine region_in (by kernel_rfl) (by kernel_rfl) (wpAny_of_held (S:=fun w'=>w'.cell? ⟨w.heap.size,0,none⟩=some (.pointer (some ⟨b,0,none⟩))∧w'.cell? ⟨Bx,0,none⟩=some (.string p.t)∧w'.cell? ⟨Bx,1,none⟩=some (.int .i64 p.node)∧w'.cell? ⟨Bx,2,none⟩=some (.int .i64 p.least)) _ _ _ _ ?_)
  show wpAnyH _ _ _ _ _ 11 #[false,false,false,false,false,false,false,false,false,false,false] _ _
  refine held_take (i:=0) (d:=some 10) (fuel:=10) (listed':=#[true,false,false,false,false,false,false,false,false,false,false]) (v := ?_) rfl rfl (by kernel_rfl) (by kernel_rfl) (by kernel_rfl) rfl (fun _ _ _ h=>h) (by rfl) ?_ HS0 ?_
  rotate_left
  · (intro wS hSw;obtain ⟨e1,e2,e3,e4⟩:=hSw;go_simp;try (with_reducible rfl))
  simp only [Act.put,sT,sZ,sS]
  refine held_take (i:=1) (d:=some 11) (fuel:=9) (listed':=#[true,true,false,false,false,false,false,false,false,false,false]) (v := ?_) rfl rfl (by kernel_rfl) (by kernel_rfl) (by kernel_rfl) rfl (fun _ _ _ h=>h) (by rfl) ?_ HS0 ?_
  rotate_left
  · (intro wS hSw;obtain ⟨e1,e2,e3,e4⟩:=hSw;go_simp;try (with_reducible rfl))
  simp only [Act.put,sT,sZ,sS]
  refine held_take (i:=2) (d:=some 12) (fuel:=8) (listed':=#[true,true,true,false,false,false,false,false,false,false,false]) (v := ?_) rfl rfl (by kernel_rfl) (by kernel_rfl) (by kernel_rfl) rfl (fun _ _ _ h=>h) (by rfl) ?_ HS0 ?_
  rotate_left
  · (intro wS hSw;go_simp;try (with_reducible rfl))
  simp only [Act.put,sT,sZ,sS]
  refine held_take (i:=3) (d:=some 13) (fuel:=7) (listed':=#[true,true,true,true,false,false,false,false,false,false,false]) (v := ?_) rfl rfl (by kernel_rfl) (by kernel_rfl) (by kernel_rfl) rfl (fun _ _ _ h=>h) (by rfl) ?_ HS0 ?_
  rotate_left
  · (intro wS hSw;go_simp;try (with_reducible rfl))
  simp only [Act.put,sT,sZ,sS]
  refine held_take (i:=5) (d:=some 15) (fuel:=6) (listed':=#[true,true,true,true,false,true,false,false,false,false,false]) (v := ?_) rfl rfl (by kernel_rfl) (by kernel_rfl) (by kernel_rfl) rfl (fun _ _ _ h=>h) (by rfl) ?_ HS0 ?_
  rotate_left
  · (intro wS hSw;obtain ⟨e1,e2,e3,e4⟩:=hSw;go_simp;try (with_reducible rfl))
  simp only [Act.put,sT,sZ,sS]
  have d1:((W.alloc (.cells #[.string p.t,.int .i64 p.node,.int .i64 p.least] 123)).drew).cell? ⟨b,1,none⟩=some (.slice ao n1 cap1):=(hal.cell (p:=⟨b,1,none⟩) hWb).trans c1
  have HS2:(fun w'=>w'.cell? ⟨w.heap.size,0,none⟩=some (.pointer (some ⟨b,0,none⟩))∧w'.cell? ⟨Bx,0,none⟩=some (.string p.t)∧w'.cell? ⟨Bx,1,none⟩=some (.int .i64 p.node)∧w'.cell? ⟨Bx,2,none⟩=some (.int .i64 p.least)) w':=⟨kd ⟨w.heap.size,0,none⟩ (by show w.heap.size<_;omega) hgw HS1.1,kd ⟨Bx,0,none⟩ hBxW hgB HS1.2.1,kd ⟨Bx,1,none⟩ hBxW hgB HS1.2.2.1,kd ⟨Bx,2,none⟩ hBxW hgB HS1.2.2.2⟩
  have f1':w'.frozen? ⟨b,1,none⟩=false:=hw2.frozen 1
  have g1':w'.cell? ⟨b,1,none⟩=some (.slice ao n1 cap1):=hw2.facts.2.1
  refine wpAnyH_ready (rs:=[4,6]) (by kernel_rfl) (by simp) (AllReadyH.cons rfl (fun K hK => ?_) (AllReadyH.cons rfl (fun K hK => ?_) AllReadyH.nil))
  · rw [if_pos (by rfl)]
    go_simp
    refine hK _ _ HS0 (fun _ => ?_)
    clear hK K
    simp only [List.setIfInBounds_toArray,List.set_cons_zero,List.set_cons_succ]
    refine held_one (i:=6) (d:=some 16) (fuel:=4) (listed':=#[true,true,true,true,true,true,true,false,false,false,false]) rfl rfl (by kernel_rfl) rfl (by rfl) (fun K hK => ?_)
    go_simp
    refine hK.out _ _ HS1 ?_
    clear hK K
    simp only [Act.put,sT,sZ,sS]
    refine held_one (i:=7) (d:=some 17) (fuel:=3) (listed':=#[true,true,true,true,true,true,true,true,false,false,false]) rfl rfl (by kernel_rfl) rfl (by rfl) (fun K hK => ?_)
    refine wp_app_eq (.tmp 14) (.tmp 16) rfl rfl rfl HRUN.out ?_
    refine hK.out _ _ HS2 ?_
    clear hK K
    simp only [Act.put,sT,sZ,sS]
    refine held_take (i:=8) (d:=some 18) (fuel:=2) (listed':=#[true,true,true,true,true,true,true,true,true,false,false]) (v := ?_) rfl rfl (by kernel_rfl) (by kernel_rfl) (by kernel_rfl) rfl (fun _ _ _ h=>h) (by rfl) ?_ HS2 ?_
    rotate_left
    · (intro wS hSw;go_simp;try (with_reducible rfl))
    simp only [Act.put,sT,sZ,sS]
    refine held_take (i:=9) (d:=some 19) (fuel:=1) (listed':=#[true,true,true,true,true,true,true,true,true,true,false]) (v := ?_) rfl rfl (by kernel_rfl) (by kernel_rfl) (by kernel_rfl) rfl (fun _ _ _ h=>h) (by rfl) ?_ HS2 ?_
    rotate_left
    · (intro wS hSw;go_simp;try (with_reducible rfl))
    simp only [Act.put,sT,sZ,sS]
    refine held_one (i:=10) (d:=none) (fuel:=0) (listed':=#[true,true,true,true,true,true,true,true,true,true,true]) rfl rfl (by kernel_rfl) rfl (by rfl) (fun K hK => ?_)
    go_simp
    refine hK.out undef _ HS3 ?_
    clear hK K
    simp only [Act.put]
    refine wpAnyH_done (by kernel_rfl) ?_ _
    refine ⟨rfl, ?_⟩
    gi_wp2
    exact BE
  · rw [if_pos (by rfl)]
    go_simp
    refine hK _ _ HS1 (fun _ => ?_)
    clear hK K
    simp only [List.setIfInBounds_toArray,List.set_cons_zero,List.set_cons_succ]
    refine held_one (i:=4) (d:=some 14) (fuel:=4) (listed':=#[true,true,true,true,true,true,true,false,false,false,false]) rfl rfl (by kernel_rfl) rfl (by rfl) (fun K hK => ?_)
    go_simp
    refine hK.out _ _ HS1 ?_
    clear hK K
    simp only [Act.put,sT,sZ,sS]
    refine held_one (i:=7) (d:=some 17) (fuel:=3) (listed':=#[true,true,true,true,true,true,true,true,false,false,false]) rfl rfl (by kernel_rfl) rfl (by rfl) (fun K hK => ?_)
    refine wp_app_eq (.tmp 14) (.tmp 16) rfl rfl rfl HRUN.out ?_
    refine hK.out _ _ HS2 ?_
    clear hK K
    simp only [Act.put,sT,sZ,sS]
    refine held_take (i:=8) (d:=some 18) (fuel:=2) (listed':=#[true,true,true,true,true,true,true,true,true,false,false]) (v := ?_) rfl rfl (by kernel_rfl) (by kernel_rfl) (by kernel_rfl) rfl (fun _ _ _ h=>h) (by rfl) ?_ HS2 ?_
    rotate_left
    · (intro wS hSw;go_simp;try (with_reducible rfl))
    simp only [Act.put,sT,sZ,sS]
    refine held_take (i:=9) (d:=some 19) (fuel:=1) (listed':=#[true,true,true,true,true,true,true,true,true,true,false]) (v := ?_) rfl rfl (by kernel_rfl) (by kernel_rfl) (by kernel_rfl) rfl (fun _ _ _ h=>h) (by rfl) ?_ HS2 ?_
    rotate_left
    · (intro wS hSw;go_simp;try (with_reducible rfl))
    simp only [Act.put,sT,sZ,sS]
    refine held_one (i:=10) (d:=none) (fuel:=0) (listed':=#[true,true,true,true,true,true,true,true,true,true,true]) rfl rfl (by kernel_rfl) rfl (by rfl) (fun K hK => ?_)
    go_simp
    refine hK.out undef _ HS3 ?_
    clear hK K
    simp only [Act.put]
    refine wpAnyH_done (by kernel_rfl) ?_ _
    refine ⟨rfl, ?_⟩
    gi_wp2
    exact BE
 case done =>
  rintro D ys W hD rfl ⟨⟨⟨wv1,h1,h2, -⟩, -, -⟩,hF,hz, -⟩ hK
  gi_wp2
  have hg:=grownBy_putObj' W D (.deferred none)
  have hr:∀ r,some D=some r→∃ o:Obj,W.heap[r]? = some o∧o.isCells=false:=fun r e=>by cases e;exact ⟨_,hK,rfl⟩
  refine ⟨by simp,.inl ⟨_,_,rfl,run_takeDeferred hK, ?_⟩⟩
  rw [came_rev ps 0 (Nat.zero_le _),List.drop_zero] at h2
  exact ⟨_,results_none rfl _ _ _,rfl,⟨wv1,WS.stay h1 hg hr,ownStay h2 hg hr⟩,hF.stay hg (fun r e=>by cases e;omega)⟩
 case stop =>
  rintro D c pre W _ _ h _
  exact h.elim
end Go.Proofs.YtdphoaabaajonaaGreatDoor
namespace Go.Proofs.YtdphoaabaajonaaGreatDoor
open Go.RowKit
def methS (k:Int):Nat:=if k=1 then 145 else if k=2 then 146 else if k=3 then 147 else if k=4 then 148 else if k=5 then 149 else if k=6 then 150 else if k=7 then 151 else if k=8 then 152 else 153
set_option maxRecDepth 100000 in
set_option maxHeartbeats 1600000 in
theorem methodS_any (k:Int) (w:World):Calls Tryz.prog 113 #[.int .i64 k] w fun e w'=>e = .returned (.func (.func (methS k)) #[] #[])∧w=w':=by
 have fin:∀ r:Nat,methS k=r→(Calls Tryz.prog 113 #[.int .i64 k] w fun e w'=>e = .returned (.func (.func r) #[] #[])∧w=w')→Calls Tryz.prog 113 #[.int .i64 k] w fun e w'=>e = .returned (.func (.func (methS k)) #[] #[])∧w=w':=fun r h1 h2=>by rw [h1];exact h2
 by_cases h1:k=1
 · refine fin 145 (by subst h1;rfl) ?_
   clear fin
   subst h1
   go_enter Tryz.func113,Tryz.ntmps113
   go_wp2_with fail
   go_ret
   exact ⟨rfl,rfl⟩
 by_cases h2:k=2
 · refine fin 146 (by subst h2;rfl) ?_
   clear fin
   subst h2
   go_enter Tryz.func113,Tryz.ntmps113
   go_wp2_with fail
   go_ret
   exact ⟨rfl,rfl⟩
 by_cases h3:k=3
 · refine fin 147 (by subst h3;rfl) ?_
   clear fin
   subst h3
   go_enter Tryz.func113,Tryz.ntmps113
   go_wp2_with fail
   go_ret
   exact ⟨rfl,rfl⟩
 by_cases h4:k=4
 · refine fin 148 (by subst h4;rfl) ?_
   clear fin
   subst h4
   go_enter Tryz.func113,Tryz.ntmps113
   go_wp2_with fail
   go_ret
   exact ⟨rfl,rfl⟩
 by_cases h5:k=5
 · refine fin 149 (by subst h5;rfl) ?_
   clear fin
   subst h5
   go_enter Tryz.func113,Tryz.ntmps113
   go_wp2_with fail
   go_ret
   exact ⟨rfl,rfl⟩
 by_cases h6:k=6
 · refine fin 150 (by subst h6;rfl) ?_
   clear fin
   subst h6
   go_enter Tryz.func113,Tryz.ntmps113
   go_wp2_with fail
   go_ret
   exact ⟨rfl,rfl⟩
 by_cases h7:k=7
 · refine fin 151 (by subst h7;rfl) ?_
   clear fin
   subst h7
   go_enter Tryz.func113,Tryz.ntmps113
   go_wp2_with fail
   go_ret
   exact ⟨rfl,rfl⟩
 by_cases h8:k=8
 · refine fin 152 (by subst h8;rfl) ?_
   clear fin
   subst h8
   go_enter Tryz.func113,Tryz.ntmps113
   go_wp2_with fail
   go_ret
   exact ⟨rfl,rfl⟩
 refine fin 153 (by unfold methS;rw [if_neg h1,if_neg h2,if_neg h3,if_neg h4,if_neg h5,if_neg h6,if_neg h7,if_neg h8]) ?_
 have e1:(k == 1)=false:=beq_eq_false_iff_ne.2 h1
 have e2:(k == 2)=false:=beq_eq_false_iff_ne.2 h2
 have e3:(k == 3)=false:=beq_eq_false_iff_ne.2 h3
 have e4:(k == 4)=false:=beq_eq_false_iff_ne.2 h4
 have e5:(k == 5)=false:=beq_eq_false_iff_ne.2 h5
 have e6:(k == 6)=false:=beq_eq_false_iff_ne.2 h6
 have e7:(k == 7)=false:=beq_eq_false_iff_ne.2 h7
 have e8:(k == 8)=false:=beq_eq_false_iff_ne.2 h8
 clear fin h1 h2 h3 h4 h5 h6 h7 h8
 go_enter Tryz.func113,Tryz.ntmps113
 go_wp2_with fail
 go_ret
 exact ⟨rfl,rfl⟩
theorem WQ.below {w w':World} {b:Nat} {nv:Value} {st:List Pt} {txt:List Int} (h:WQ w b nv st txt) (hb:Below w.heap.size w w'):WQ w' b nv st txt:=by
 obtain ⟨wv,h1,h2⟩:=h;exact ⟨wv,h1.below hb,h2.below hb (Nat.le_refl _)⟩
theorem WQ.wrote {w w':World} {b:Nat} {nv wv:Value} {st:List Pt} {txt:List Int} (h:Own encPt 123 w (b+1) wv st) (hs:WS w' b nv wv txt) (hf:Fb w w' b):WQ w' b nv st txt :=
 ⟨wv,hs,Own.keep h fun g h1 h2 h3=>hf.block g h2 (by omega) (.inr fun cur fr e=>by
  obtain ⟨-, -,cur2,hc⟩:=Own.blockLt h g h3
  rw [hc] at e;injection e with e;injection e with _ e2;exact absurd e2 (by decide))⟩
def Wrote (w:World) (b:Nat) (nv:Value) (st:List Pt) (txt:List Int) (n:Nd) (e:Ending) (w':World):Prop :=
 e = .returned (.tuple #[])∧WQ w' b nv (st++(stepN n).2.reverse) (txt++(stepN n).1)∧Fq w w' b
theorem Wrote.of {w w1 w2:World} {b:Nat} {nv wv:Value} {st:List Pt} {txt txt':List Int} {n:Nd} (hb:Below w.heap.size w w1) (h:Own encPt 123 w1 (b+1) wv st) (hs:WS w2 b nv wv txt') (hf:Fb w1 w2 b) (h1:(stepN n).2=[]) (h2:txt'=txt++(stepN n).1):Wrote w b nv st txt n (.returned (.tuple #[])) w2:=by
 refine ⟨rfl, ?_,(Fq.ofBelow hb).trans (Fq.ofB hf)⟩
 rw [h1, ← h2,List.reverse_nil,List.append_nil]
 exact WQ.wrote h hs hf
set_option maxRecDepth 100000 in
set_option maxHeartbeats 2000000 in
theorem dead_node (w:World) (b:Nat) (nv:Value) (st:List Pt) (txt:List Int) (n:Nd) (A:Option Addr) (m c:Nat) (h:WQ w b nv st txt) (hk:n.kind=4) (hl:txt.length≤1000000000) :
 Calls Tryz.prog 148 #[.pointer (some ⟨b,0,none⟩),.agg #[.int .i64 n.kind,.int .i64 n.num,.string n.text,.string n.ref.sh,.int .i64 n.ref.c,.int .i64 n.ref.r,.bool n.ref.ac,.bool n.ref.ar,.string n.to.sh,.int .i64 n.to.c,.int .i64 n.to.r,.bool n.to.ac,.bool n.to.ar,.slice A m c]] w (Wrote w b nv st txt n):=by
 have hB:Below w.heap.size w (w.alloc (.cells #[.int .i64 n.kind,.int .i64 n.num,.string n.text,.string n.ref.sh,.int .i64 n.ref.c,.int .i64 n.ref.r,.bool n.ref.ac,.bool n.ref.ar,.string n.to.sh,.int .i64 n.to.c,.int .i64 n.to.r,.bool n.to.ac,.bool n.to.ar,.slice A m c] 140)):=(Below.refl _ _).alloc (Nat.le_refl _) _
 have hs:stepN n=([35,82,69,70,33],[]):=by unfold stepN;rw [if_neg (by omega),if_neg (by omega),if_neg (by omega),if_pos hk]
 have HS:=Lib.hid hs
 have HB:=Lib.hid hB
 obtain ⟨wv,h1,h2⟩:=h.below hB
 have HO:=Lib.hid h2
 have HW:=Lib.hid (write_any _ b nv wv txt ⟨#[35,82,69,70,33]⟩ h1 (by show txt.length+5≤_;omega))
 clear h h1 h2 hB hs hk
 go_enter Tryz.func148,Tryz.ntmps148
 go_wp2_with (go_at_call 110;((with_reducible refine HW.out.mono ?_);rintro e w2 ⟨⟨x,rfl⟩,h3,h4⟩;have H3:=Lib.hid h3;have H4:=Lib.hid h4;clear h3 h4))
 go_end0
 exact Wrote.of HB.out HO.out H3.out H4.out (by rw [HS.out]) (by rw [HS.out,show sb ⟨#[35,82,69,70,33]⟩=[35,82,69,70,33] by decide])
set_option maxRecDepth 100000 in
set_option maxHeartbeats 2000000 in
theorem truth_yes (w:World) (b:Nat) (nv:Value) (st:List Pt) (txt:List Int) (n:Nd) (A:Option Addr) (m c:Nat) (h:WQ w b nv st txt) (hk:n.kind=3) (hv:n.num=1) (hl:txt.length≤1000000000) :
 Calls Tryz.prog 147 #[.pointer (some ⟨b,0,none⟩),.agg #[.int .i64 n.kind,.int .i64 n.num,.string n.text,.string n.ref.sh,.int .i64 n.ref.c,.int .i64 n.ref.r,.bool n.ref.ac,.bool n.ref.ar,.string n.to.sh,.int .i64 n.to.c,.int .i64 n.to.r,.bool n.to.ac,.bool n.to.ar,.slice A m c]] w (Wrote w b nv st txt n):=by
 have hB:Below w.heap.size w (w.alloc (.cells #[.int .i64 n.kind,.int .i64 n.num,.string n.text,.string n.ref.sh,.int .i64 n.ref.c,.int .i64 n.ref.r,.bool n.ref.ac,.bool n.ref.ar,.string n.to.sh,.int .i64 n.to.c,.int .i64 n.to.r,.bool n.to.ac,.bool n.to.ar,.slice A m c] 140)):=(Below.refl _ _).alloc (Nat.le_refl _) _
 have hs:stepN n=([84,82,85,69],[]):=by unfold stepN;rw [if_neg (by omega),if_neg (by omega),if_pos hk,if_pos hv]
 have HS:=Lib.hid hs
 have HB:=Lib.hid hB
 obtain ⟨wv,h1,h2⟩:=h.below hB
 have HO:=Lib.hid h2
 have HW:=Lib.hid (write_any _ b nv wv txt ⟨#[84,82,85,69]⟩ h1 (by show txt.length+4≤_;omega))
 have g1:(n.num == 1)=true:=beq_iff_eq.2 hv
 clear h h1 h2 hB hs hk hv
 go_enter Tryz.func147,Tryz.ntmps147
 go_wp2_with (go_at_call 110;((with_reducible refine HW.out.mono ?_);rintro e w2 ⟨⟨x,rfl⟩,h3,h4⟩;have H3:=Lib.hid h3;have H4:=Lib.hid h4;clear h3 h4))
 go_end0
 exact Wrote.of HB.out HO.out H3.out H4.out (by rw [HS.out]) (by rw [HS.out,show sb ⟨#[84,82,85,69]⟩=[84,82,85,69] by decide])
set_option maxRecDepth 100000 in
set_option maxHeartbeats 2000000 in
theorem truth_no (w:World) (b:Nat) (nv:Value) (st:List Pt) (txt:List Int) (n:Nd) (A:Option Addr) (m c:Nat) (h:WQ w b nv st txt) (hk:n.kind=3) (hv:¬ n.num=1) (hl:txt.length≤1000000000) :
 Calls Tryz.prog 147 #[.pointer (some ⟨b,0,none⟩),.agg #[.int .i64 n.kind,.int .i64 n.num,.string n.text,.string n.ref.sh,.int .i64 n.ref.c,.int .i64 n.ref.r,.bool n.ref.ac,.bool n.ref.ar,.string n.to.sh,.int .i64 n.to.c,.int .i64 n.to.r,.bool n.to.ac,.bool n.to.ar,.slice A m c]] w (Wrote w b nv st txt n):=by
 have hB:Below w.heap.size w (w.alloc (.cells #[.int .i64 n.kind,.int .i64 n.num,.string n.text,.string n.ref.sh,.int .i64 n.ref.c,.int .i64 n.ref.r,.bool n.ref.ac,.bool n.ref.ar,.string n.to.sh,.int .i64 n.to.c,.int .i64 n.to.r,.bool n.to.ac,.bool n.to.ar,.slice A m c] 140)):=(Below.refl _ _).alloc (Nat.le_refl _) _
 have hs:stepN n=([70,65,76,83,69],[]):=by unfold stepN;rw [if_neg (by omega),if_neg (by omega),if_pos hk,if_neg hv]
 have HS:=Lib.hid hs
 have HB:=Lib.hid hB
 obtain ⟨wv,h1,h2⟩:=h.below hB
 have HO:=Lib.hid h2
 have HW:=Lib.hid (write_any _ b nv wv txt ⟨#[70,65,76,83,69]⟩ h1 (by show txt.length+5≤_;omega))
 have g1:(n.num == 1)=false:=beq_eq_false_iff_ne.2 hv
 clear h h1 h2 hB hs hk hv
 go_enter Tryz.func147,Tryz.ntmps147
 go_wp2_with (go_at_call 110;((with_reducible refine HW.out.mono ?_);rintro e w2 ⟨⟨x,rfl⟩,h3,h4⟩;have H3:=Lib.hid h3;have H4:=Lib.hid h4;clear h3 h4))
 go_end0
 exact Wrote.of HB.out HO.out H3.out H4.out (by rw [HS.out]) (by rw [HS.out,show sb ⟨#[70,65,76,83,69]⟩=[70,65,76,83,69] by decide])
set_option maxRecDepth 100000 in
set_option maxHeartbeats 400000 in
theorem col_any (n:Int) (_h0 : -9223372036854775808≤n) (_h1:n≤9223372036854775807) (w:World) :
 Calls Tryz.prog 202 #[.int .i64 n] w fun e w'=>e = .returned (.string (strOfNums (colL n)))∧w=w':=by
 by_cases hr:n<0∨701<n
 · have hc:colL n=[]:=by unfold colL;rw [if_pos hr]
   have HC:=Lib.hid hc;clear hc
   go_enter Tryz.func202,Tryz.ntmps202
   go_wp2
   all_goals first | omega | skip
   all_goals go_ret
   all_goals exact ⟨by rw [HC.out];rfl,rfl⟩
 · have h0:¬ n<0:=by omega
   have h2:¬ 701<n:=by omega
   have h0':0≤n:=by omega
   have he:=enc_cap (65+n % 26) (by omega) (by omega)
   have HE:=Lib.hid he;clear he
   by_cases h26:n<26
   · have hc:colL n=[65+n % 26]:=by unfold colL;rw [if_neg hr,if_pos h26];congr 1;omega
     have HC:=Lib.hid hc;clear hc hr
     go_enter Tryz.func202,Tryz.ntmps202
     go_wp2_with fail
     all_goals go_ret
     all_goals exact ⟨by rw [HC.out, ← HE.out];rfl,rfl⟩
   · have hc:colL n=[65+n / 26 - 1]++[65+n % 26]:=by unfold colL;rw [if_neg hr,if_neg h26];show [64+n / 26,65+n % 26]=[65+n / 26 - 1,65+n % 26];congr 1;omega
     have he2:=enc_cap (65+n / 26 - 1) (by omega) (by omega)
     have hz:(Utf8.encode (65+n / 26 - 1)).size+(Utf8.encode (65+n % 26)).size≤8:=by rw [he2,HE.out,strOfNums_size,strOfNums_size];simp
     have HE2:=Lib.hid he2;clear he2
     have HC:=Lib.hid hc;clear hc hr
     go_enter Tryz.func202,Tryz.ntmps202
     go_wp2_with fail
     all_goals go_ret
     all_goals exact ⟨ret_str (by rw [HC.out];exact str_app _ _ _ _ HE2.out HE.out),rfl⟩
end Go.Proofs.YtdphoaabaajonaaGreatDoor
