/- What the document's own Same, Few and Times of decimals come to, by a walk through each. (and more) -/
import Derived.Test.YtdjhkbholijnmaaGreatDoorR08
set_option linter.all false
set_option maxRecDepth 100000
set_option maxHeartbeats 8000000
namespace Go.Proofs.YtdjhkbholijnmaaGreatDoor
section
open Go.RowKit
namespace Er
theorem same_eq (g:Bool) (v u:Value) (s:Int) (xs:List Int) (w:World) (hv:Lst w v xs) (hu:Lst w u xs) (hl:xs.length < 1000000) :
  Calls Tryz.prog 15 #[dv g v s,dv g u s] w fun e w'=>e = .returned (.bool true) /\ Q w w':=by
 have M:=Hd (fun w' (q:Q w w')=>Ur.same_any v u xs xs w' (hv.q q) (hu.q q) (by omega) (by omega));simp only [decide_true] at M;obtain ⟨a,c,rfl⟩:=hv.shape;obtain ⟨b,d,rfl⟩:=hu.shape;generalize xs.length = n at *;have hk:=fun w' (q:Q ((w.alloc (.cells #[.bool g,.slice a n c,.int .i64 s] 49)).alloc (.cells #[.bool g,.slice b n d,.int .i64 s] 49)) w')=>And.intro (block_cells ((q.block (lt_of_block (heap_alloc2_old w _ _))).trans (heap_alloc2_old w _ _))) (block_cells ((q.block (lt_of_block (heap_alloc2_new w _ _))).trans (heap_alloc2_new w _ _)));have HK:=Hd hk;clear hv hu hk;go_enter Tryz.func15,Tryz.ntmps15
 unfold dv;go_wp2_with fail
 refine (M.out _ (((Q.refl w).alloc _).alloc _)).mono ?_;rintro e w1 ⟨rfl,hq⟩;obtain ⟨⟨a0,a1,a2,_,_,_⟩,⟨b0,b1,b2,_,_,_⟩⟩:=HK.out w1 hq;have HQ:=Hd ((((Q.refl w).alloc _).alloc _).trans hq);clear hq;cases g;all_goals
  go_wp2_with fail
  go_ret
  exact ⟨rfl,HQ.out⟩
end Er
end
end Go.Proofs.YtdjhkbholijnmaaGreatDoor
