/- The forty records: the mathematics. (and more) -/
import Derived.Test.YtdjhkbholijnmaaGreatDoorR07
import Derived.Deep.RegionHeld3
import Derived.Shelf.Strings.Cut
set_option linter.all false
set_option maxRecDepth 100000
set_option maxHeartbeats 8000000
namespace Go.Proofs.YtdjhkbholijnmaaGreatDoor
section
namespace Fm
open Lm
def tab:List Rec:=[
 ⟨[97,114,45,69,71],[194,164,35,44,35,35,48,46,48,48],[97,114,97,98],[217,171],[217,172],[45],[217,170],[69,71,80]⟩,
 ⟨[98,103,45,66,71],[48,46,48,48,194,160,194,164],[108,97,116,110],[44],[],[45],[37],[66,71,78]⟩,
 ⟨[98,110,45,66,68],[35,44,35,35,44,35,35,48,46,48,48,194,164],[98,101,110,103],[46],[44],[45],[37],[224,167,179]⟩,
 ⟨[99,115,45,67,90],[35,44,35,35,48,46,48,48,194,160,194,164],[108,97,116,110],[44],[226,128,175],[45],[37],[75,196,141]⟩,
 ⟨[100,97,45,68,75],[35,44,35,35,48,46,48,48,194,160,194,164],[108,97,116,110],[44],[46],[45],[37],[107,114]⟩,
 ⟨[100,101,45,65,84],[194,164,194,160,35,44,35,35,48,46,48,48],[108,97,116,110],[44],[46],[45],[37],[226,130,172]⟩,
 ⟨[100,101,45,67,72],[194,164,194,160,35,44,35,35,48,46,48,48,59,194,164,45,35,44,35,35,48,46,48,48],[108,97,116,110],[46],[226,128,153],[45],[37],[67,72,70]⟩,
 ⟨[100,101,45,68,69],[35,44,35,35,48,46,48,48,194,160,194,164],[108,97,116,110],[44],[46],[45],[37],[226,130,172]⟩,
 ⟨[100,122,45,66,84],[194,164,35,44,35,35,44,35,35,48,46,48,48],[116,105,98,116],[46],[44],[45],[37],[78,117]⟩,
 ⟨[101,108,45,71,82],[35,44,35,35,48,46,48,48,194,160,194,164],[108,97,116,110],[44],[46],[45],[37],[226,130,172]⟩,
 ⟨[101,110,45,71,66],[194,164,35,44,35,35,48,46,48,48],[108,97,116,110],[46],[44],[45],[37],[194,163]⟩,
 ⟨[101,110,45,73,78],[194,164,35,44,35,35,44,35,35,48,46,48,48],[108,97,116,110],[46],[44],[45],[37],[226,130,185]⟩,
 ⟨[101,110,45,85,83],[194,164,35,44,35,35,48,46,48,48],[108,97,116,110],[46],[44],[45],[37],[36]⟩,
 ⟨[101,115,45,69,83],[35,44,35,35,48,46,48,48,194,160,194,164],[108,97,116,110],[44],[46],[45],[37],[226,130,172]⟩,
 ⟨[101,116,45,69,69],[35,44,35,35,48,46,48,48,194,160,194,164],[108,97,116,110],[44],[226,128,175],[226,136,146],[37],[226,130,172]⟩,
 ⟨[102,97,45,73,82],[35,44,35,35,48,46,48,48],[97,114,97,98,101,120,116],[217,171],[217,172],[226,136,146],[217,170],[]⟩,
 ⟨[102,105,45,70,73],[35,44,35,35,48,46,48,48,194,160,194,164],[108,97,116,110],[44],[226,128,175],[226,136,146],[37],[226,130,172]⟩,
 ⟨[102,114,45,67,65],[35,44,35,35,48,46,48,48,194,160,194,164],[108,97,116,110],[44],[226,128,175],[45],[37],[36]⟩,
 ⟨[102,114,45,70,82],[35,44,35,35,48,46,48,48,194,160,194,164],[108,97,116,110],[44],[226,128,175],[45],[37],[226,130,172]⟩,
 ⟨[103,117,45,73,78],[194,164,35,44,35,35,44,35,35,48,46,48,48],[103,117,106,114],[46],[44],[45],[37],[226,130,185]⟩,
 ⟨[104,101,45,73,76],[35,44,35,35,48,46,48,48,194,160,194,164],[108,97,116,110],[46],[44],[45],[37],[226,130,170]⟩,
 ⟨[104,105,45,73,78],[194,164,35,44,35,35,44,35,35,48,46,48,48],[100,101,118,97],[46],[44],[45],[37],[226,130,185]⟩,
 ⟨[104,117,45,72,85],[35,44,35,35,48,46,48,48,194,160,194,164],[108,97,116,110],[44],[226,128,175],[45],[37],[70,116]⟩,
 ⟨[105,100,45,73,68],[194,164,194,160,35,44,35,35,48,46,48,48],[108,97,116,110],[44],[46],[45],[37],[82,112]⟩,
 ⟨[106,97,45,74,80],[194,164,35,44,35,35,48],[108,97,116,110],[46],[44],[45],[37],[239,191,165]⟩,
 ⟨[107,109,45,75,72],[35,44,35,35,48,46,48,48,194,164],[107,104,109,114],[44],[46],[45],[37],[225,159,155]⟩,
 ⟨[107,110,45,73,78],[194,164,35,44,35,35,44,35,35,48,46,48,48],[107,110,100,97],[46],[44],[45],[37],[226,130,185]⟩,
 ⟨[107,111,45,75,82],[194,164,35,44,35,35,48],[108,97,116,110],[46],[44],[45],[37],[226,130,169]⟩,
 ⟨[108,111,45,76,65],[194,164,35,44,35,35,48,46,48,48,59,194,164,45,35,44,35,35,48,46,48,48],[108,97,111,111],[44],[46],[45],[37],[226,130,173]⟩,
 ⟨[109,114,45,73,78],[194,164,35,44,35,35,44,35,35,48,46,48,48],[100,101,118,97],[46],[44],[45],[37],[226,130,185]⟩,
 ⟨[109,121,45,77,77],[35,44,35,35,48,46,48,48,194,160,194,164],[109,121,109,114],[46],[44],[45],[37],[75]⟩,
 ⟨[110,98,45,78,79],[194,164,194,160,35,44,35,35,48,46,48,48,59,194,164,194,160,45,35,44,35,35,48,46,48,48],[108,97,116,110],[44],[226,128,175],[226,136,146],[37],[107,114]⟩,
 ⟨[110,108,45,78,76],[194,164,194,160,35,44,35,35,48,46,48,48,59,194,164,194,160,45,35,44,35,35,48,46,48,48],[108,97,116,110],[44],[46],[45],[37],[226,130,172]⟩,
 ⟨[112,108,45,80,76],[35,44,35,35,48,46,48,48,194,160,194,164],[108,97,116,110],[44],[226,128,175],[45],[37],[122,197,130]⟩,
 ⟨[112,116,45,66,82],[194,164,194,160,35,44,35,35,48,46,48,48],[108,97,116,110],[44],[46],[45],[37],[82,36]⟩,
 ⟨[114,117,45,82,85],[35,44,35,35,48,46,48,48,194,160,194,164],[108,97,116,110],[44],[226,128,175],[45],[37],[226,130,189]⟩,
 ⟨[115,108,45,83,73],[35,44,35,35,48,46,35,35,37],[108,97,116,110],[44],[46],[226,136,146],[37],[]⟩,
 ⟨[116,97,45,73,78],[194,164,194,160,35,44,35,35,44,35,35,48,46,48,48],[116,97,109,108,100,101,99],[46],[44],[45],[37],[226,130,185]⟩,
 ⟨[116,104,45,84,72],[194,164,35,44,35,35,48,46,48,48],[116,104,97,105],[46],[44],[45],[37],[224,184,191]⟩,
 ⟨[122,104,45,67,78],[194,164,35,44,35,35,48,46,48,48],[108,97,116,110],[46],[44],[45],[37],[194,165]⟩]
def rec0:Rec:=⟨[],[],[],[],[],[],[],[]⟩
def T (i:Nat):Rec:=tab.getD i rec0
def ptC:List (List Int):=[[164,35,44,35,35,48,46,48,48],[48,46,48,48,160,164],[35,44,35,35,44,35,35,48,46,48,48,164],[35,44,35,35,48,46,48,48,160,164],[164,160,35,44,35,35,48,46,48,48],[164,160,35,44,35,35,48,46,48,48,59,164,45,35,44,35,35,48,46,48,48],[164,35,44,35,35,44,35,35,48,46,48,48],[35,44,35,35,48,46,48,48],[164,35,44,35,35,48],[35,44,35,35,48,46,48,48,164],[164,35,44,35,35,48,46,48,48,59,164,45,35,44,35,35,48,46,48,48],[164,160,35,44,35,35,48,46,48,48,59,164,160,45,35,44,35,35,48,46,48,48],[35,44,35,35,48,46,35,35,37],[164,160,35,44,35,35,44,35,35,48,46,48,48]]
def ptB:List By:=[[194,164,35,44,35,35,48,46,48,48],[48,46,48,48,194,160,194,164],[35,44,35,35,44,35,35,48,46,48,48,194,164],[35,44,35,35,48,46,48,48,194,160,194,164],[194,164,194,160,35,44,35,35,48,46,48,48],[194,164,194,160,35,44,35,35,48,46,48,48,59,194,164,45,35,44,35,35,48,46,48,48],[194,164,35,44,35,35,44,35,35,48,46,48,48],[35,44,35,35,48,46,48,48],[194,164,35,44,35,35,48],[35,44,35,35,48,46,48,48,194,164],[194,164,35,44,35,35,48,46,48,48,59,194,164,45,35,44,35,35,48,46,48,48],[194,164,194,160,35,44,35,35,48,46,48,48,59,194,164,194,160,45,35,44,35,35,48,46,48,48],[35,44,35,35,48,46,35,35,37],[194,164,194,160,35,44,35,35,44,35,35,48,46,48,48]]
def ptN:List Nat:=[0,1,2,3,3,4,5,3,6,3,0,6,0,3,3,7,3,3,3,6,3,6,3,4,8,9,6,8,10,6,3,11,11,3,4,3,12,13,0,0]
def nP (i:Nat):Nat:=ptN.getD i 0
def ptX:List Pt.Pat:=ptC.map fun c=>(Pt.parseC c).1
def P (p:Nat):Pt.Pat:=ptX.getD p Pt.pat0
theorem tab_len:tab.length = 40:=by decide
theorem nP_lt:∀ i,i < 40 -> nP i < 14:=by decide +kernel
theorem pat_of:∀ i,i < 40 -> (T i).pat = ptB.getD (nP i) []:=by decide +kernel
theorem ptC_B:∀ p,p < 14 -> Um.joinL (ptC.getD p []) = ptB.getD p [] /\ (Pt.parseC (ptC.getD p [])).1 = P p /\ (ptC.getD p []).all (fun c=>Um.vld c) = true:=by decide +kernel
def okB (r:Rec) (X:Pt.Pat):Bool :=
 (r.nam.all fun b=>(decide (97 <= b.toNat) && decide (b.toNat <= 122)) || ((decide (65 <= b.toNat) && decide (b.toNat <= 90)) || decide (b.toNat = 45))) &&
 (decide (1 <= r.nam.length) && (decide (r.nam.length <= 16) &&
 (decide (cnt 3 X.pre = 0) && (decide (cnt 3 X.suf = 0) && (decide (cnt 3 X.npre + cnt 3 X.nsuf = 1) &&
 (decide (0 <= Sm.nz r.sys) && (decide (r.sys.length <= 16) && (symB r.dec && (symB r.min && (decide (0 <= X.pr) &&
 ((if 0 < X.pr then symB r.grp else decide (r.grp = [])) &&
 ((wordB r.per || (decide (r.per = []) && (affs X).all fun A=>decide (cnt 2 A = 0))) &&
 ((wordB r.cur || (decide (r.cur = []) && (affs X).all fun A=>decide (cnt 1 A = 0))) &&
 (((affs X).all fun A=>decide (A.length <= 10) && A.all (fun x=>decide (0 <= x.1 /\ x.1 <= 3) && (decide (x.2.length <= 10) && ((x.1 != 0 || Cm.plainB (Um.allL x.2)) && (x.1 == 0 || x.2 == []))))) &&
 (((affs X).all fun A=>decide ((atx r A).length <= 64)) &&
 (decide ((syms r).Nodup) &&
 (((List.range 13).all fun i=>decide (i = 11) || decide (0 < ((syms r).getD i ⟨#[]⟩).size)) &&
 (clus r X).all fun c=>notin c (syms r))))))))))))))))))
theorem ok_of {r:Rec} {X:Pt.Pat} (h:okB r X = true):Ok r X:=by
 unfold okB at h;simp only [Bool.and_eq_true,decide_eq_true_eq,List.all_eq_true,Bool.or_eq_true,bne_iff_ne,ne_eq,beq_iff_eq,List.mem_range] at h;obtain ⟨h1,h2,h3,h4,h5,h6,h7,h8,h9,h10,h11,h12,h13,h14,h15,h16,h17,h18,h19⟩:=h;exact {
  nam:=h1
  nam1:=⟨h2,h3⟩
  sg:=⟨h4,h5,h6⟩
  sys:=h7
  sysl:=h8
  dec:=h9
  min:=h10
  pr:=h11
  grp1:=fun h=>by rwa [if_pos h] at h12
  grp0:=fun h=>by rw [if_neg h] at h12;exact of_decide_eq_true h12
  per:=h13
  cur:=h14
  aff:=fun A hA=>⟨(h15 A hA).1,fun x hx=>by
   obtain ⟨g1,g2,g3,g4⟩:=(h15 A hA).2 x hx;exact ⟨g1,g2,fun e=>g3.resolve_left (fun n=>n e),fun e=>g4.resolve_left e⟩⟩
  len:=h16
  dis:=h17
  ne:=fun i x hx hi=>by
   have hl:i < 13:=(List.getElem?_eq_some_iff.1 hx).1;have:=(h18 i hl).resolve_left hi;rwa [List.getD_eq_getElem?_getD,hx] at this
  cl:=fun c hc=>of_notin (h19 c hc) }
theorem f_ok0:∀ i,i < 8 -> okB (T (0 + i)) (P (nP (0 + i))) = true:=by decide +kernel
theorem f_ok8:∀ i,i < 8 -> okB (T (8 + i)) (P (nP (8 + i))) = true:=by decide +kernel
theorem f_ok16:∀ i,i < 8 -> okB (T (16 + i)) (P (nP (16 + i))) = true:=by decide +kernel
theorem f_ok24:∀ i,i < 8 -> okB (T (24 + i)) (P (nP (24 + i))) = true:=by decide +kernel
theorem f_ok32:∀ i,i < 8 -> okB (T (32 + i)) (P (nP (32 + i))) = true:=by decide +kernel
theorem f_ok (i:Nat) (h:i < 40):Ok (T i) (P (nP i)):=by
 refine ok_of ?_;by_cases h1:i < 8
 ·have:=f_ok0 i h1;rwa [Nat.zero_add] at this
 ·by_cases h2:i < 16
  ·have:=f_ok8 (i - 8) (by omega);rwa [show 8 + (i - 8) = i by omega] at this
  ·by_cases h3:i < 24
   ·have:=f_ok16 (i - 16) (by omega);rwa [show 16 + (i - 16) = i by omega] at this
   ·by_cases h4:i < 32
    ·have:=f_ok24 (i - 24) (by omega);rwa [show 24 + (i - 24) = i by omega] at this
    ·have:=f_ok32 (i - 32) (by omega);rwa [show 32 + (i - 32) = i by omega] at this
/-! ### names, languages -/
def nam (i:Nat):By:=(T i).nam
end Fm
end
section
open Go.RowKit
namespace Er
def dv (g:Bool) (v:Value) (s:Int):Value:=.agg #[.bool g,v,.int .i64 s]
theorem infoD:(Tryz.prog.info? 49).map (·.size) = some 3:=by kernel_rfl
theorem ret_dv {fn:Func} {p:Tmp} (h:fn.results = #[.cell p 49]) {R:Ending -> World -> Prop} {a:Act} {w:World} {g:Nat} {b:Bool} {v:Value} {s:Int} {T:TypeId} {fr:Nat × Nat}
  (hp:a.tmps.getD p undef = .pointer (some ⟨g,0,none⟩)) (hg:w.heap[g]? = some (.cells #[.bool b,v,.int .i64 s] T fr)) (hd:a.defers = []) (hR:R (.returned (dv b v s)) w):bodyPost Tryz.prog fn R .ret a w :=
 bodyPost_ret (results_cell_row h a.tmps w g T #[.bool b,v,.int .i64 s] fr _ hp hg Tryz.underlying49 rfl infoD) hd hR
theorem block_cells {w:World} {g:Nat} {b:Bool} {v:Value} {s:Int} {T:TypeId} (h:w.heap[g]? = some (.cells #[.bool b,v,.int .i64 s] T)) :
  w.cell? ⟨g,0,none⟩ = some (.bool b) /\ w.cell? ⟨g,1,none⟩ = some v /\ w.cell? ⟨g,2,none⟩ = some (.int .i64 s) /\ w.frozen? ⟨g,0,none⟩ = false /\ w.frozen? ⟨g,1,none⟩ = false /\ w.frozen? ⟨g,2,none⟩ = false:=by
 simp [World.cell?,World.frozen?,h]
theorem block_set {w:World} {g:Nat} {x y z x' y' z':Value} {T:TypeId} (h:w.heap[g]? = some (.cells #[x,y,z] T)) :
  (((w.setCell ⟨g,0,none⟩ x').setCell ⟨g,1,none⟩ y').setCell ⟨g,2,none⟩ z').heap[g]? = some (.cells #[x',y',z'] T):=by
 have h1:=heap_setCell_same w g 0 _ T x' h;have h2:=heap_setCell_same _ g 1 _ T y' h1;have h3:=heap_setCell_same _ g 2 _ T z' h2;exact h3
def cellV (b i:Nat) (u:World):Value:=(u.cell? ⟨b,i,none⟩).getD undef
def SD (w:World) (g:Bool) (v:Value) (s:Int) (u:World):Prop :=
 u.cell? ⟨w.heap.size,0,none⟩ = some (.bool g) /\ (u.cell? ⟨w.heap.size,1,none⟩ = some (v) /\ (u.cell? ⟨w.heap.size,2,none⟩ = some (.int .i64 s) /\ (u.cell? ⟨w.heap.size + 1,0,none⟩ = some (cellV (w.heap.size + 1) 0 u) /\ (u.cell? ⟨w.heap.size + 1,1,none⟩ = some (cellV (w.heap.size + 1) 1 u) /\ (u.cell? ⟨w.heap.size + 1,2,none⟩ = some (cellV (w.heap.size + 1) 2 u) /\ (u.frozen? ⟨w.heap.size + 1,0,none⟩ = false /\ (u.frozen? ⟨w.heap.size + 1,1,none⟩ = false /\ (u.frozen? ⟨w.heap.size + 1,2,none⟩ = false /\ (u.heap[w.heap.size]? = some (.cells #[.bool g,v,.int .i64 s] 49) /\ ((∃ x y z,u.heap[w.heap.size + 1]? = some (.cells #[x,y,z] 49)) /\ Q w u))))))))))
theorem some_cells {w:World} {g:Nat} {x y z:Value} {T:TypeId} (h:w.heap[g]? = some (.cells #[x,y,z] T)) :
  w.cell? ⟨g,0,none⟩ = some (cellV g 0 w) /\ w.cell? ⟨g,1,none⟩ = some (cellV g 1 w) /\ w.cell? ⟨g,2,none⟩ = some (cellV g 2 w) /\ w.frozen? ⟨g,0,none⟩ = false /\ w.frozen? ⟨g,1,none⟩ = false /\ w.frozen? ⟨g,2,none⟩ = false:=by
 simp [cellV,World.cell?,World.frozen?,h]
theorem SD.of {w u:World} {g:Bool} {v:Value} {s:Int} (h0:u.heap[w.heap.size]? = some (.cells #[.bool g,v,.int .i64 s] 49)) (h1:∃ x y z,u.heap[w.heap.size + 1]? = some (.cells #[x,y,z] 49)) (hq:Q w u):SD w g v s u:=by
 obtain ⟨a0,a1,a2,a3,a4,a5⟩:=block_cells h0;obtain ⟨x,y,z,h1⟩:=h1;obtain ⟨b0,b1,b2,b3,b4,b5⟩:=some_cells h1;exact ⟨a0,a1,a2,b0,b1,b2,b3,b4,b5,h0,⟨x,y,z,h1⟩,hq⟩
theorem SD.q {w u u':World} {g:Bool} {v:Value} {s:Int} (h:SD w g v s u) (hq:Q u u'):SD w g v s u':=by
 obtain ⟨_,_,_,_,_,_,_,_,_,h0,⟨x,y,z,h1⟩,h2⟩:=h;exact SD.of ((hq.block (lt_of_block h0)).trans h0) ⟨x,y,z,(hq.block (lt_of_block h1)).trans h1⟩ (h2.trans hq)
theorem SD.start (w:World) (g:Bool) (v:Value) (s:Int):SD w g v s ((w.alloc (.cells #[.bool g,v,.int .i64 s] 49)).alloc (.cells #[.bool false,.slice none 0 0,.int .i64 0] 49)) :=
 SD.of (heap_alloc2_old _ _ _) ⟨_,_,_,heap_alloc2_new _ _ _⟩ (((Q.refl w).alloc _).alloc _)
theorem SD.put {w u:World} {g:Bool} {v:Value} {s:Int} (h:SD w g v s u) (x y z:Value):SD w g v s (((u.setCell ⟨w.heap.size + 1,0,none⟩ x).setCell ⟨w.heap.size + 1,1,none⟩ y).setCell ⟨w.heap.size + 1,2,none⟩ z) /\
  (((u.setCell ⟨w.heap.size + 1,0,none⟩ x).setCell ⟨w.heap.size + 1,1,none⟩ y).setCell ⟨w.heap.size + 1,2,none⟩ z).heap[w.heap.size + 1]? = some (.cells #[x,y,z] 49):=by
 obtain ⟨_,_,_,_,_,_,_,_,_,h0,⟨x0,y0,z0,h1⟩,h2⟩:=h;have hb:=block_set (x':=x) (y':=y) (z':=z) h1;refine ⟨SD.of ?_ ⟨x,y,z,hb⟩ (((h2.setCell (ad:=⟨w.heap.size + 1,0,none⟩) (Nat.le_succ _) x).setCell (ad:=⟨w.heap.size + 1,1,none⟩) (Nat.le_succ _) y).setCell (ad:=⟨w.heap.size + 1,2,none⟩) (Nat.le_succ _) z),hb⟩;rw [heap_setCell_other _ ⟨w.heap.size + 1,2,none⟩ _ z (by simp),heap_setCell_other _ ⟨w.heap.size + 1,1,none⟩ _ y (by simp),heap_setCell_other _ ⟨w.heap.size + 1,0,none⟩ _ x (by simp)];exact h0
theorem Own.put {w u:World} {v:Value} {zs:List Int} (h:Own u (w.heap.size + 2) v zs) (x y z:Value):Own (((u.setCell ⟨w.heap.size + 1,0,none⟩ x).setCell ⟨w.heap.size + 1,1,none⟩ y).setCell ⟨w.heap.size + 1,2,none⟩ z) (w.heap.size + 2) v zs :=
 h.same fun g hg=>by
  have hB:=(h.lt g hg).1;rw [heap_setCell_other _ ⟨w.heap.size + 1,2,none⟩ _ z (by show g ≠ w.heap.size + 1;omega),heap_setCell_other _ ⟨w.heap.size + 1,1,none⟩ _ y (by show g ≠ w.heap.size + 1;omega),heap_setCell_other _ ⟨w.heap.size + 1,0,none⟩ _ x (by show g ≠ w.heap.size + 1;omega)]
theorem SD.room {w u:World} {g:Bool} {v:Value} {s:Int} (h:SD w g v s u):w.heap.size + 2 <= u.heap.size:=by
 obtain ⟨_,_,_,_,_,_,_,_,_,_,⟨x,y,z,h1⟩,_⟩:=h;exact lt_of_block h1
def LF (w:World) (B:Nat) (v:Value) (xs:List Int):Prop:=∃ a n c,v = .slice a n c /\ Lst w v xs /\ n = xs.length /\ ∀ ad,a = some ad -> n ≠ 0 -> B <= ad.block
theorem LF.lst {w:World} {B:Nat} {v:Value} {xs:List Int} (h:LF w B v xs):Lst w v xs:=by obtain ⟨_,_,_,_,h,_⟩:=h;exact h
theorem LF.q {w w':World} {B:Nat} {v:Value} {xs:List Int} (h:LF w B v xs) (hq:Q w w'):LF w' B v xs:=by obtain ⟨a,n,c,h0,h1,h2⟩:=h;exact ⟨a,n,c,h0,h1.q hq,h2⟩
theorem LF.mono {w:World} {B B':Nat} {v:Value} {xs:List Int} (h:LF w B v xs) (hB:B' <= B):LF w B' v xs:=by obtain ⟨a,n,c,h0,h1,h2,h3⟩:=h;exact ⟨a,n,c,h0,h1,h2,fun ad ha hn=>Nat.le_trans hB (h3 ad ha hn)⟩
theorem LF.of {w:World} {B:Nat} {v:Value} {xs:List Int} (h:Own w B v xs):LF w B v xs:=by
 rcases h.2 with ⟨hv,hn⟩ | ⟨g,cap,cur,hv,hg,_⟩
 ·exact ⟨_,_,_,hv,h.lst,hn.symm,fun ad ha=>by cases ha⟩
 ·exact ⟨_,_,_,hv,h.lst,rfl,fun ad ha _=>by cases ha;exact hg⟩
theorem LF.nil (w:World) (B:Nat):LF w B (.slice none 0 0) []:=⟨_,_,_,rfl,.nil _ _ _ (by unfold maxLen;omega) (fun _=>rfl),rfl,fun ad ha=>by cases ha⟩
theorem LF.put {u:World} {B r:Nat} {v:Value} {zs:List Int} (h:LF u B v zs) (hr:r < B) (x y z:Value):LF (((u.setCell ⟨r,0,none⟩ x).setCell ⟨r,1,none⟩ y).setCell ⟨r,2,none⟩ z) B v zs:=by
 obtain ⟨a,n,c,rfl,h1,h2,h3⟩:=h;have hne:∀ (ad:Addr) (n' c':Nat),(Value.slice a n c) = .slice (some ad) n' c' -> n' ≠ 0 -> ad.block ≠ r:=by
  intro ad n' c' e hn;cases e;have:=h3 ad rfl hn;omega
 exact ⟨a,n,c,rfl,((h1.setCell (ad:=⟨r,0,none⟩) x hne).setCell (ad:=⟨r,1,none⟩) y hne).setCell (ad:=⟨r,2,none⟩) z hne,h2,h3⟩
theorem LF.shape {w:World} {B:Nat} {v:Value} {xs:List Int} (h:LF w B v xs):∃ a c,v = .slice a xs.length c:=by obtain ⟨a,n,c,h0,_,h2,_⟩:=h;exact ⟨a,c,by rw [h0,h2]⟩
theorem trim_any (g:Bool) (v:Value) (s:Nat) (L:List Int) (w:World) (hv:Lst w v L) (hl:L.length < 1000000) (hd:Dm.okD L) (hs:s <= 1000000) :
  Calls Tryz.prog 35 #[dv g v s] w fun e w'=>∃ u,e = .returned (dv (Dm.cg g (Dm.num L)) u ((Dm.st (Dm.num L) s).2:Nat)) /\ LF w' (w.heap.size + 2) u (Dm.dg (Dm.st (Dm.num L) s).1) /\ Q w w':=by
 obtain ⟨a,c,rfl,hc1,hc2⟩:=hv.shape2;have htr:=Dm.trim_eq L hd;have T:=Hd (fun u (h:SD w g (.slice a L.length c) s u)=>(by
  refine (Dr.trim_any _ L u (hv.q h.2.2.2.2.2.2.2.2.2.2.2) (by omega)).mono ?_;rintro e w' ⟨x,rfl,ho,hq⟩;rw [htr] at ho;exact ⟨x,rfl,ho.mono h.room,h.q hq⟩:Calls Tryz.prog 70 #[.slice a L.length c] u fun e w'=>∃ x,e = .returned x /\ Own w' (w.heap.size + 2) x (Dm.dg (Dm.num L)) /\ SD w g (.slice a L.length c) s w'))
 have HS:=Hd (SD.start w g (.slice a L.length c) s);have hdl:=Dm.dg_len L hd;have PUT:=Hd (fun u (h:SD w g (.slice a L.length c) s u) x y z=>h.put x y z);generalize Dm.num L = M at *;generalize L.length = n at *;clear hv htr;go_enter Tryz.func35,Tryz.ntmps35
 unfold dv;go_wp2_with fail
 refine (T.out _ HS.out).mono ?_;rintro e w1 ⟨u,rfl,ho,hS⟩;by_cases hM:M = 0
 ·subst hM
  rw [Dm.dg_zero] at ho;obtain ⟨ua,uc,rfl⟩:=ho.shape;have hfin:=PUT.out w1 hS (.bool false) (.slice none 0 0) (.int .i64 0);have HF:=Hd hfin.2;have hqf:Q w _:=hfin.1.2.2.2.2.2.2.2.2.2.2.2;have HQ:=Hd hqf;unfold SD at hS;obtain ⟨a0,a1,a2,b0,b1,b2,b3,b4,b5,_,_,_⟩:=hS;have HZ:=Hd (Dm.st_zero s);clear hfin hqf ho;go_wp2_with fail
  refine ret_dv rfl rfl HF.out rfl ⟨.slice none 0 0,?_,?_,HQ.out⟩
  ·rw [HZ.out];rfl
  ·rw [HZ.out,Dm.dg_zero];exact LF.nil _ _
 ·obtain ⟨p,hp⟩:∃ p,p = (Dm.dg M).length:=⟨_,rfl⟩
  have hp0:0 < p:=by have:=(Dm.dg_last M hM).1;omega
  obtain ⟨b,cp,rfl,hb,hbw,hpc,hpm⟩:=ho.head hp.symm hp0;have HL:=Hd ho.lst;have HSD:=Hd hS;have HP:=Hd hp;have HCG:=Hd (Dm.cg_pos (g:=g) hM);unfold SD at hS;obtain ⟨a0,a1,a2,b0,b1,b2,b3,b4,b5,_,_,_⟩:=hS;unfold maxLen at hpm;have hne:¬ p = 0:=by omega
  have hpn:p <= n:=by omega
  clear ho hp hdl;go_wp2_with fail
  go_loop [3,4] (fun x t=>∃ (M' n' q:Nat),x = .slice (some ⟨b,0,none⟩) q cp /\ t = .int .i64 n' /\ M' ≠ 0 /\ q = (Dm.dg M').length /\ q <= p /\ n' <= s /\ Lst w1 (.slice (some ⟨b,0,none⟩) q cp) (Dm.dg M') /\ Dm.st M' n' = Dm.st M s) (fun _ t=>(intOf t).toNat)
  case atStart=>exact ⟨M,s,p,rfl,rfl,hM,HP.out,Nat.le_refl _,Nat.le_refl _,HL.out,rfl⟩
  case round =>
   obtain ⟨M',n',q,rfl,rfl,hM',hq,hqp,hns,hl',hst⟩:=hrel;obtain ⟨e1,e2,e3⟩:=Dm.dg_last M' hM';rw [<- hq] at e1 e2 e3;have hq0:0 < q:=by omega
   obtain ⟨r,rfl⟩:∃ r,q = r + 1:=⟨q - 1,by omega⟩;rw [Nat.add_sub_cancel] at e2 e3;obtain ⟨g2,off2,cap2,hv2,_,_,_,c1⟩:=hl'.cellOf hq.symm (Nat.lt_succ_self r);cases hv2;rw [e2,Nat.zero_add] at c1;have hqi:((r + 1:Nat):Int) - 1 = (r:Int):=by omega
   have ht:=hl'.take r (by rw [<- hq];omega);rw [e3] at ht;have HT:=Hd ht;have HQ0:=Hd hq;have HL':=Hd hl';have HST:=Hd hst;have HQ1:=Hd (show r = (Dm.dg (M' / 10)).length from by omega);have hfin:=fun x y z=>PUT.out w1 HSD.out x y z;have PF:=Hd hfin;have hrc:(r:Int) <= (cp:Int):=by omega
   clear e1 e2 e3 hq ht hl' hst hfin;by_cases hn0:n' = 0
   ·subst hn0
    have hfn:=PF.out (.bool g) (.slice (some ⟨b,0,none⟩) (r + 1) cp) (.int .i64 0);have HF:=Hd hfn.2;have hqf:Q w _:=hfn.1.2.2.2.2.2.2.2.2.2.2.2;have HQ:=Hd hqf;have HLL:=Hd (((HL'.out.setCell (ad:=⟨w.heap.size + 1,0,none⟩) (.bool g) (fun a n c h _=>by cases h;show b ≠ w.heap.size + 1;omega)).setCell (ad:=⟨w.heap.size + 1,1,none⟩) (.slice (some ⟨b,0,none⟩) (r + 1) cp) (fun a n c h _=>by cases h;show b ≠ w.heap.size + 1;omega)).setCell (ad:=⟨w.heap.size + 1,2,none⟩) (.int .i64 0) (fun a n c h _=>by cases h;show b ≠ w.heap.size + 1;omega));have hs2:=HST.out;rw [Dm.st] at hs2;have HS2:=Hd hs2;clear hfn hqf hs2;go_wp2_with fail
    refine ret_dv rfl rfl HF.out rfl ⟨.slice (some ⟨b,0,none⟩) (r + 1) cp,?_,?_,HQ.out⟩
    ·rw [HCG.out,<- HS2.out];rfl
    ·rw [<- HS2.out];exact ⟨_,_,_,rfl,HLL.out,HQ0.out,fun ad ha _=>by cases ha;exact hb⟩
   ·obtain ⟨n2,rfl⟩:∃ n2,n' = n2 + 1:=⟨n' - 1,by omega⟩
    by_cases hz:M' % 10 = 0
    ·have hz2:((M' % 10:Nat):Int) = 0:=by omega
     rw [hz2] at c1;have HN:=Hd ((Dm.st_on M' n2 hz).symm.trans HST.out);have hM2:M' / 10 ≠ 0:=by omega
     clear hz hz2;go_wp2_with fail
     exact ⟨⟨M' / 10,n2,r,by first | rfl | go_num,by go_num,hM2,HQ1.out,by omega,by omega,HT.out,HN.out⟩,by simp [intOf]⟩
    ·obtain ⟨x,hx⟩:∃ x:Int,x = ((M' % 10:Nat):Int):=⟨_,rfl⟩
     rw [<- hx] at c1;have e5:(x == 0) = false:=beq_eq_false_iff_ne.2 (by omega);have hfn:=PF.out (.bool g) (.slice (some ⟨b,0,none⟩) (r + 1) cp) (.int .i64 ((n2:Int) + 1));have HF:=Hd hfn.2;have hqf:Q w _:=hfn.1.2.2.2.2.2.2.2.2.2.2.2;have HQ:=Hd hqf;have HLL:=Hd (((HL'.out.setCell (ad:=⟨w.heap.size + 1,0,none⟩) (.bool g) (fun a n c h _=>by cases h;show b ≠ w.heap.size + 1;omega)).setCell (ad:=⟨w.heap.size + 1,1,none⟩) (.slice (some ⟨b,0,none⟩) (r + 1) cp) (fun a n c h _=>by cases h;show b ≠ w.heap.size + 1;omega)).setCell (ad:=⟨w.heap.size + 1,2,none⟩) (.int .i64 ((n2:Int) + 1)) (fun a n c h _=>by cases h;show b ≠ w.heap.size + 1;omega));have HS2:=Hd ((Dm.st_end M' n2 hz).symm.trans HST.out);clear hfn hqf hz hx;go_wp2_with fail
     refine ret_dv rfl rfl HF.out rfl ⟨.slice (some ⟨b,0,none⟩) (r + 1) cp,?_,?_,HQ.out⟩
     ·rw [HCG.out,<- HS2.out];rfl
     ·rw [<- HS2.out];exact ⟨_,_,_,rfl,HLL.out,HQ0.out,fun ad ha _=>by cases ha;exact hb⟩
end Er
end
section
open Go.RowKit
namespace Dw
theorem n1:Dm.dg (Dm.num [1,0,0] - Dm.num [9,9]) = [1]:=by decide +kernel
end Dw
end
section
open Go.Shelf
namespace Sp
def shelfIndexRen:Go.Shelf.Ren:=⟨fun | 143=>222 | 217=>237 | 219=>225 | 224=>239 | 225=>238 | 266=>246 | 267=>240 | 314=>247 | n=>n,fun | 3=>3 | 4=>4 | 5=>5 | 9=>9 | 46=>278 | 51=>283 | 146=>284 | n=>n,fun | 1=>0 | n=>n⟩
theorem shelfIndex:Go.Proofs.Lays.n143 Tryz.prog shelfIndexRen:={
 mixed:=by kernel_rfl
 f143:=Tryz.func222.trans (congrArg some (by kernel_rfl))
 f217:=Tryz.func237.trans (congrArg some (by kernel_rfl))
 f219:=Tryz.func225.trans (congrArg some (by kernel_rfl))
 f224:=Tryz.func239.trans (congrArg some (by kernel_rfl))
 f225:=Tryz.func238.trans (congrArg some (by kernel_rfl))
 f266:=Tryz.func246.trans (congrArg some (by kernel_rfl))
 f267:=Tryz.func240.trans (congrArg some (by kernel_rfl))
 f314:=Tryz.func247.trans (congrArg some (by kernel_rfl))
 t3:=Tryz.underlying3
 a3:=Tryz.isAgg3
 z3:=Tryz.sizeOf3
 v3:=Tryz.zeroValue3
 t4:=Tryz.underlying4
 a4:=Tryz.isAgg4
 z4:=Tryz.sizeOf4
 v4:=Tryz.zeroValue4
 t5:=Tryz.underlying5
 a5:=Tryz.isAgg5
 z5:=Tryz.sizeOf5
 v5:=Tryz.zeroValue5
 t9:=Tryz.underlying9
 a9:=Tryz.isAgg9
 z9:=Tryz.sizeOf9
 v9:=Tryz.zeroValue9
 t46:=Tryz.underlying278
 a46:=Tryz.isAgg278
 z46:=Tryz.sizeOf278
 v46:=Tryz.zeroValue278
 t51:=Tryz.underlying283
 a51:=Tryz.isAgg283
 z51:=Tryz.sizeOf283
 v51:=Tryz.zeroValue283
 t146:=Tryz.underlying284
 a146:=Tryz.isAgg284
 z146:=Tryz.sizeOf284
 v146:=Tryz.zeroValue284
 g1:=by kernel_rfl }
def shelfIndexLRen:Go.Shelf.Ren:=⟨fun | 217=>237 | 219=>225 | 224=>239 | 225=>238 | 266=>246 | 267=>240 | 314=>247 | n=>n,fun | 3=>3 | 4=>4 | 5=>5 | 9=>9 | 46=>278 | 51=>283 | 146=>284 | n=>n,fun | 1=>0 | n=>n⟩
theorem shelfIndexL:Go.Proofs.Lays.n219 Tryz.prog shelfIndexLRen:={
 mixed:=by kernel_rfl
 f217:=Tryz.func237.trans (congrArg some (by kernel_rfl))
 f219:=Tryz.func225.trans (congrArg some (by kernel_rfl))
 f224:=Tryz.func239.trans (congrArg some (by kernel_rfl))
 f225:=Tryz.func238.trans (congrArg some (by kernel_rfl))
 f266:=Tryz.func246.trans (congrArg some (by kernel_rfl))
 f267:=Tryz.func240.trans (congrArg some (by kernel_rfl))
 f314:=Tryz.func247.trans (congrArg some (by kernel_rfl))
 t3:=Tryz.underlying3
 a3:=Tryz.isAgg3
 z3:=Tryz.sizeOf3
 v3:=Tryz.zeroValue3
 t4:=Tryz.underlying4
 a4:=Tryz.isAgg4
 z4:=Tryz.sizeOf4
 v4:=Tryz.zeroValue4
 t5:=Tryz.underlying5
 a5:=Tryz.isAgg5
 z5:=Tryz.sizeOf5
 v5:=Tryz.zeroValue5
 t9:=Tryz.underlying9
 a9:=Tryz.isAgg9
 z9:=Tryz.sizeOf9
 v9:=Tryz.zeroValue9
 t46:=Tryz.underlying278
 a46:=Tryz.isAgg278
 z46:=Tryz.sizeOf278
 v46:=Tryz.zeroValue278
 t51:=Tryz.underlying283
 a51:=Tryz.isAgg283
 z51:=Tryz.sizeOf283
 v51:=Tryz.zeroValue283
 t146:=Tryz.underlying284
 a146:=Tryz.isAgg284
 z146:=Tryz.sizeOf284
 v146:=Tryz.zeroValue284
 g1:=by kernel_rfl }
open Go.RowKit Go.Lib in
theorem index_any (s:ByteArray) (c:UInt8) (w:World):Calls Tryz.prog 222 #[.string s,.string ⟨#[c]⟩] w fun e w'=>e = .returned (.int .i64 (Lib.indexByte s.data.toList c)) /\ w' = w:=Any.strings_Index_one shelfIndex s c w
open Go.RowKit Go.Lib in
theorem indexL_any (s:ByteArray) (c:UInt8) (w:World):Calls Tryz.prog 225 #[.string s,.string ⟨#[c]⟩] w fun e w'=>e = .returned (.int .i64 (Lib.indexByte s.data.toList c)) /\ w' = w:=Any.stringslite_Index_one shelfIndexL s c w
open Go.RowKit in
theorem cutL_any (s:ByteArray) (c:UInt8) (w:World) (hs:s.size <= 1000000) :
  Calls Tryz.prog 215 #[.string s,.string ⟨#[c]⟩] w fun e w'=>e = .returned (.tuple #[.string ⟨(Lib.cut s.data.toList [c]).1.toArray⟩,.string ⟨(Lib.cut s.data.toList [c]).2.1.toArray⟩,.bool (Lib.cut s.data.toList [c]).2.2]) /\ Q w w':=by
 have hI:=fun w=>indexL_any s c w;have e0:Lib.indexB s ⟨#[c]⟩ = Lib.indexByte s.data.toList c:=Lib.index_one _ _;rw [<- e0] at hI;rcases Lib.indexB_cases s ⟨#[c]⟩ with hix | ⟨i,hix,hroom⟩
 ·obtain ⟨e1,e2,e3⟩:=Lib.cutB_miss s ⟨#[c]⟩ hix
  have e1:(⟨(Lib.cut s.data.toList [c]).1.toArray⟩:ByteArray) = s:=e1;have e2:(⟨(Lib.cut s.data.toList [c]).2.1.toArray⟩:ByteArray) = ByteArray.empty:=e2;have e3:(Lib.cut s.data.toList [c]).2.2 = false:=e3;rw [hix] at hI;have HI:=Hd hI;have HE:=Hd (And.intro e1 (And.intro e2 e3));clear hI e0 hix e1 e2 e3;go_enter Tryz.func215,Tryz.ntmps215
  go_wp2_with fail
  refine (HI.out _).mono ?_;rintro e w1 ⟨rfl,rfl⟩;go_wp2_with fail
  go_ret3
  rw [HE.out.1,HE.out.2.1,HE.out.2.2];exact ⟨rfl,Q.refl _⟩
 ·obtain ⟨e1,e2,e3⟩:=Lib.cutB_hit s ⟨#[c]⟩ i hix
  rw [hix] at hI;have hroom:i + 1 <= s.size:=hroom;have e1:(⟨(Lib.cut s.data.toList [c]).1.toArray⟩:ByteArray) = s.extract 0 i:=e1;have e2:(⟨(Lib.cut s.data.toList [c]).2.1.toArray⟩:ByteArray) = s.extract (i + 1) s.size:=e2;have e3:(Lib.cut s.data.toList [c]).2.2 = true:=e3;have HI:=Hd hI;have HE:=Hd (And.intro e1 (And.intro e2 e3));clear hI e0 hix e1 e2 e3;have c1:(0:Int) <= (i:Int):=by omega
  have c2:(i:Int) <= (s.size:Int):=by omega
  have c4:(i:Int) + 1 <= (s.size:Int):=by omega
  go_enter Tryz.func215,Tryz.ntmps215
  go_wp2_with fail
  refine (HI.out _).mono ?_;rintro e w1 ⟨rfl,rfl⟩;go_wp2_with fail
  go_region
  go_wp2_with fail
  go_ret3
  rw [HE.out.1,HE.out.2.1,HE.out.2.2];exact ⟨rfl,(Q.refl _).drew⟩
open Go.RowKit in
theorem cut_any (s:ByteArray) (c:UInt8) (w:World) (hs:s.size <= 1000000) :
  Calls Tryz.prog 203 #[.string s,.string ⟨#[c]⟩] w fun e w'=>e = .returned (.tuple #[.string ⟨(Lib.cut s.data.toList [c]).1.toArray⟩,.string ⟨(Lib.cut s.data.toList [c]).2.1.toArray⟩,.bool (Lib.cut s.data.toList [c]).2.2]) /\ Q w w':=by
 have hC:=fun w=>cutL_any s c w hs;generalize Lib.cut s.data.toList [c] = R at *;obtain ⟨r1,r2,r3⟩:=R;go_enter Tryz.func203,Tryz.ntmps203
 go_wp2_with fail
 refine (hC _).mono ?_;rintro e w1 ⟨rfl,hq⟩;go_wp2_with fail
 go_ret3
 exact ⟨rfl,hq⟩
open Go.RowKit in
theorem split_any (s:ByteArray) (c:UInt8) (w:World) (hs:s.size <= 1000000) :
  Calls Tryz.prog 204 #[.string s,.string ⟨#[c]⟩] w fun e w'=>∃ v,e = .returned v /\ SLst w' v (Lib.splitB ⟨#[c]⟩ 0 (Lib.countB s ⟨#[c]⟩) s) /\ Q w w':=by
 have hle:=Lib.countB_le ⟨#[c]⟩ (Nat.le_refl 1) s.size s (Nat.le_refl _);have hlen:=Lib.splitB_all ⟨#[c]⟩ (Nat.le_refl 1) 0 _ s rfl;have hC:Calls Tryz.prog 207 #[.string s,.string ⟨#[c]⟩] w fun e w'=>e = .returned (.int .i64 (Lib.countB s ⟨#[c]⟩)) /\ w' = w:=by
  refine (count_any s c w).mono ?_;rintro e w' ⟨rfl,rfl⟩;refine ⟨?_,rfl⟩;show _ = Ending.returned (Value.int .i64 ((Lib.count s.data.toList [c]:Nat):Int));rw [Lib.count_one];rfl
 have cc:=Any.strings_genSplit_core shelfGenSplit (by kernel_rfl) s ⟨#[c]⟩ 0 (-1) (Lib.countB s ⟨#[c]⟩ + 1) w (by omega) (Nat.le_refl 1) (Nat.zero_le _)
  (fun x cs hx=>by
   refine (index_any x c _).mono ?_;rintro e w' ⟨rfl,rfl⟩;refine ⟨?_,rfl⟩;rw [show Lib.indexB x ⟨#[c]⟩ = Lib.indexByte x.data.toList c from Lib.index_one _ _]) hC (by decide) (by decide) (by rw [if_pos (by decide)];omega)
 rw [Nat.add_sub_cancel,hlen] at cc;have e2:Lib.cellsOf (Lib.splitB ⟨#[c]⟩ 0 (Lib.countB s ⟨#[c]⟩) s) (Lib.countB s ⟨#[c]⟩ + 1) = ((Lib.splitB ⟨#[c]⟩ 0 (Lib.countB s ⟨#[c]⟩) s).map Value.string).toArray:=by rw [<- hlen];exact Lib.cellsOf_full _
 rw [e2] at cc;generalize Lib.splitB ⟨#[c]⟩ 0 (Lib.countB s ⟨#[c]⟩) s = L at *;generalize Lib.countB s ⟨#[c]⟩ = N at *;have CC:=Hd cc;have HLN:=Hd hlen;clear cc hC e2 hlen;go_enter Tryz.func204,Tryz.ntmps204
 go_wp2_with fail
 refine CC.out.mono ?_;rintro e w1 ⟨rfl,rfl⟩;go_wp2_with fail
 go_ret
 exact ⟨_,rfl,GLst.made Value.string 9 w L (N + 1) HLN.out (by unfold maxLen;omega),(Q.refl _).alloc _⟩
end Sp
end
section
open Go.RowKit
namespace Pg
open Pt Um
theorem elG:Sg.El 239 203:=⟨by kernel_rfl,Tryz.underlying203⟩
abbrev OwnG (w:World) (B:Nat) (v:Value) (l:List (Int × Int)):Prop:=Sg.OwnE 239 w B v l
def tokQ:Bool -> Bool -> List Int -> Option (List (Int × Int))
 | q,p,[]=>if (q != p) = true then none else some []
 | q,p,c :: r =>
  if c = 39 then (if p = true then (tokQ q false r).map ((0,39) :: ·) else tokQ q true r)
  else if (q != p) = true then (tokQ true false r).map ((0,c) :: ·)
  else (tokQ false false r).map ((kindC c,c) :: ·)
theorem tokQ_cons (q p:Bool) (c:Int) (r:List Int):tokQ q p (c :: r) = if c = 39 then (if p = true then (tokQ q false r).map ((0,39) :: ·) else tokQ q true r) else if (q != p) = true then (tokQ true false r).map ((0,c) :: ·) else (tokQ false false r).map ((kindC c,c) :: ·):=rfl
theorem tok_q (cs:List Int):∀ q p l,tokS q p cs = some l -> tokQ q p cs = some l:=by
 induction cs with
 | nil=>intro q p l h;exact h
 | cons c r ih =>
  intro q p l h;rw [tokS_cons] at h;rw [tokQ_cons];split at h
  ·rename_i h1
   rw [if_pos h1];split at h
   ·rename_i h2
    rw [if_pos h2];obtain ⟨m,hm,rfl⟩:=Option.map_eq_some_iff.1 h;rw [ih _ _ _ hm];rfl
   ·rename_i h2
    rw [if_neg h2];exact ih _ _ _ h
  ·rename_i h1
   rw [if_neg h1];split at h
   ·rename_i h2
    rw [if_pos h2];obtain ⟨m,hm,rfl⟩:=Option.map_eq_some_iff.1 h;rw [ih _ _ _ hm];rfl
   ·rename_i h2
    rw [if_neg h2];split at h
    ·cases h
    ·obtain ⟨m,hm,rfl⟩:=Option.map_eq_some_iff.1 h
     rw [ih _ _ _ hm];rfl
theorem tokQ_turn (q:Bool) (r:List Int) (h:r = [] \/ r.getD 0 0 ≠ 39):tokQ q true r = tokQ (!q) false r:=by
 cases r with
 | nil=>cases q <;> rfl
 | cons c r =>
  have hc:c ≠ 39:=by
   rcases h with h | h
   ·cases h
   ·simpa using h
  rw [tokQ_cons,tokQ_cons,if_neg hc,if_neg hc];cases q <;> rfl
theorem drop_at (cs:List Int) (k:Nat) (hk:k < cs.length):cs.drop k = cs.getD k 0 :: cs.drop (k + 1):=by
 rw [List.getD_eq_getElem?_getD,List.getElem?_eq_getElem hk];exact List.drop_eq_getElem_cons hk
def Far (cs:List Int) (k:Nat) (q:Bool) (o:List (Int × Int)):Prop:=(tokQ q false (cs.drop k)).map (o ++ ·) = tokQ false false cs /\ o.length <= k
theorem Far.start (cs:List Int):Far cs 0 false []:=⟨by simp,by simp⟩
theorem Far.two {cs:List Int} {k:Nat} {q:Bool} {o:List (Int × Int)} (h:Far cs k q o) (hk:k + 1 < cs.length) (h1:cs.getD k 0 = 39) (h2:cs.getD (k + 1) 0 = 39):Far cs (k + 2) q (o ++ [(0,39)]):=by
 obtain ⟨h,hl⟩:=h;rw [drop_at cs k (by omega),h1,drop_at cs (k + 1) hk,h2,tokQ_cons,if_pos rfl,if_neg (by decide),tokQ_cons,if_pos rfl,if_pos rfl,Option.map_map] at h;refine ⟨?_,by simp;omega⟩;rw [<- h];congr 1
 funext x;simp
theorem Far.turn {cs:List Int} {k:Nat} {q:Bool} {o:List (Int × Int)} (h:Far cs k q o) (hk:k < cs.length) (h1:cs.getD k 0 = 39) (h2:¬ (k + 1 < cs.length /\ cs.getD (k + 1) 0 = 39)):Far cs (k + 1) (!q) o:=by
 obtain ⟨h,hl⟩:=h;rw [drop_at cs k hk,h1,tokQ_cons,if_pos rfl,if_neg (by decide)] at h;refine ⟨?_,by omega⟩;rw [<- h,tokQ_turn q];by_cases hn:k + 1 < cs.length
 ·right
  rw [drop_at cs (k + 1) hn];simpa using fun e=>h2 ⟨hn,by simpa using e⟩
 ·left
  exact List.drop_eq_nil_of_le (by omega)
theorem Far.in {cs:List Int} {k:Nat} {o:List (Int × Int)} (h:Far cs k true o) (hk:k < cs.length) (h1:cs.getD k 0 ≠ 39):Far cs (k + 1) true (o ++ [(0,cs.getD k 0)]):=by
 obtain ⟨h,hl⟩:=h;rw [drop_at cs k hk,tokQ_cons,if_neg h1,if_pos (by decide),Option.map_map] at h;refine ⟨?_,by simp;omega⟩;rw [<- h];congr 1
 funext x;simp
theorem Far.out {cs:List Int} {k:Nat} {o:List (Int × Int)} (h:Far cs k false o) (hk:k < cs.length) (h1:cs.getD k 0 ≠ 39):Far cs (k + 1) false (o ++ [(kindC (cs.getD k 0),cs.getD k 0)]):=by
 obtain ⟨h,hl⟩:=h;rw [drop_at cs k hk,tokQ_cons,if_neg h1,if_neg (by decide),Option.map_map] at h;refine ⟨?_,by simp;omega⟩;rw [<- h];congr 1
 funext x;simp
theorem Far.fin {cs:List Int} {q:Bool} {o:List (Int × Int)} (h:Far cs cs.length q o):tokQ false false cs = if q = true then none else some o:=by
 obtain ⟨h,hl⟩:=h;rw [List.drop_eq_nil_of_le (Nat.le_refl _)] at h;rw [<- h];cases q <;> simp [tokQ]
theorem signs_any (s:ByteArray) (w:World) (hs:s.size <= 1000000) (hok:okL s.data.toList = true) :
  Calls Tryz.prog 145 #[.string s] w fun e w'=>Q w w' /\
   ((∃ v l,tokQ false false (allL s.data.toList) = some l /\ e = .returned v /\ OwnG w' w.heap.size v l /\ l.length <= s.size) \/ (tokQ false false (allL s.data.toList) = none /\ e = .panicked form)):=by
 have hva:=fun w=>valid_any s w (by unfold maxLen;omega);rw [hok] at hva;have hal:=fun w=>all_any s w (by omega);have hml:=marks_length s.data.toList;rw [size_list] at hml;have hcl:(allL s.data.toList).length <= s.size:=by unfold allL;simp;omega
 clear hml hok;generalize allL s.data.toList = cs at *;obtain ⟨n,hn⟩:∃ n,n = cs.length:=⟨_,rfl⟩;have HN:=Hd hn;rw [<- hn] at hcl;obtain ⟨R,hR⟩:∃ R,R = tokQ false false cs:=⟨_,rfl⟩;have HR:=Hd hR;rw [<- hR];clear hn hR;go_enter Tryz.func145,Tryz.ntmps145
 go_wp2_with fail
 refine (hva _).mono ?_;rintro e w1 ⟨rfl,hq1⟩;go_wp2_with fail
 refine (need_yes _).mono ?_;rintro e w1' ⟨rfl,rfl⟩;go_wp2_with fail
 refine (hal _).mono ?_;rintro e w2 ⟨v,rfl,hv,hq2'⟩;have hq2:=hq1.trans hq2';clear hq1 hq2';have HV:=Hd hv.lst;obtain ⟨a,cp,rfl,_,_⟩:=hv.lst.form0 HN.out.symm;clear hv hal hva;go_wp2_with fail
 go_loopw [3,5,6] (fun u q i wr=>∃ (k:Nat) (b:Bool) (o:List (Int × Int)),i = .int .i64 k /\ q = .bool b /\ k <= n /\ OwnG wr w2.heap.size u o /\ Far cs k b o /\ Q w2 wr) (fun _ _ i _=>n - (intOf i).toNat)
 case atStart=>exact ⟨0,false,[],rfl,rfl,by omega,Sg.OwnE.nil _ _ _,Far.start cs,Q.refl _⟩
 case round =>
  obtain ⟨k,b,o,rfl,rfl,hk,ho,hf,hq⟩:=hrel;have hqs:=hq.le;have HF:=Hd hf;have hol:o.length < 1073741824:=by have:=hf.2;omega
  clear hf;by_cases hlt:k < n
  ·have hlti:(k:Int) < (n:Int):=by omega
   have hkl:k < cs.length:=by have:=HN.out;omega
   obtain ⟨g,off,cap,hvv,hg,hnc,hcm,hca⟩:=HV.out.cellOf HN.out.symm hlt;cases hvv;have hcell:∀ j,j < n -> wr.cell? ⟨g,off + j,none⟩ = some (.int .i64 (cs.getD j 0)):=by
    intro j hj;obtain ⟨g',off',cap',hvv',hg',_,_,hcj⟩:=HV.out.cellOf HN.out.symm hj;cases hvv';exact (World.cell?_of_block (w:=w2) (hq.block hg')).trans hcj
   have c1:=hcell k hlt;have HCE:=Hd hcell;clear hca hcell;have F1:=fun h1 h2 h3=>HF.out.two h1 h2 h3;have F2:=fun h1 h2=>HF.out.turn hkl h1 h2;obtain ⟨c,hc⟩:∃ c,c = cs.getD k 0:=⟨_,rfl⟩;rw [<- hc] at c1 F1 F2;have HC:=Hd hc;clear hc;by_cases h39:c = 39
   ·subst h39
    by_cases hn1:k + 1 < n
    ·have hn1i:(k:Int) + 1 < (n:Int):=by omega
     have c2:=HCE.out (k + 1) hn1;obtain ⟨d,hd⟩:∃ d,d = cs.getD (k + 1) 0:=⟨_,rfl⟩;rw [<- hd] at c2 F1 F2;have HD:=Hd hd;clear hd;by_cases hd9:d = 39
     ·subst hd9
      have HF2:=Hd (F1 (by have:=HN.out;omega) rfl rfl);clear F1 F2;go_wp2_with (at_builtin;refine Sg.push elG ho rfl _ _ rfl 0 39 (by rfl) (by rfl) hol hqs ?_)
      intro v' w4 ho4 hg4 hat4;have hq4:=hq.grown hg4 (fun j h=>(ho.lt j h).1);go_wp2_with fail
      go_roundw
      case rel=>exact ⟨k + 2,b,o ++ [(0,39)],by go_num,rfl,by omega,ho4,HF2.out,hq4⟩
      case measure=>simp [intOf];omega
     ·have hdb:(d == 39) = false:=beq_eq_false_iff_ne.2 hd9
      have HF2:=Hd (F2 rfl (fun h=>hd9 h.2));clear F1 F2;go_wp2_with fail
      go_roundw
      case rel=>exact ⟨k + 1,!b,o,by go_num,rfl,by omega,ho,HF2.out,hq⟩
      case measure=>simp [intOf];omega
    ·have hn1i:¬ (k:Int) + 1 < (n:Int):=by omega
     have HF2:=Hd (F2 rfl (fun h=>hn1 (by have:=HN.out;omega)));clear F1 F2;go_wp2_with fail
     go_roundw
     case rel=>exact ⟨k + 1,!b,o,by go_num,rfl,by omega,ho,HF2.out,hq⟩
     case measure=>simp [intOf];omega
   ·have hcb:(c == 39) = false:=beq_eq_false_iff_ne.2 h39
    clear F1 F2;cases b
    ·have G2:=HF.out.out hkl (by rw [<- HC.out];exact h39)
     have K1:=fun w=>meaning_any c w;rw [<- HC.out] at G2;obtain ⟨kc,hkc⟩:∃ kc,kc = kindC c:=⟨_,rfl⟩;rw [<- hkc] at G2 K1;have HK1:=Hd K1;have HF2:=Hd G2;clear hkc K1 G2;go_wp2_with fail
     refine (HK1.out _).mono ?_;rintro e w3 ⟨rfl,rfl⟩;go_wp2_with (at_builtin;refine Sg.push elG ho rfl _ _ rfl kc c (by rfl) (by rfl) hol hqs ?_)
     intro v' w4 ho4 hg4 hat4;have hq4:=hq.grown hg4 (fun j h=>(ho.lt j h).1);go_wp2_with fail
     go_roundw
     case rel=>exact ⟨k + 1,false,o ++ [(kc,c)],by go_num,rfl,by omega,ho4,HF2.out,hq4⟩
     case measure=>simp [intOf];omega
    ·have G2:=HF.out.in hkl (by rw [<- HC.out];exact h39)
     rw [<- HC.out] at G2;have HF2:=Hd G2;clear G2;go_wp2_with (at_builtin;refine Sg.push elG ho rfl _ _ rfl 0 c (by rfl) (by rfl) hol hqs ?_)
     intro v' w4 ho4 hg4 hat4;have hq4:=hq.grown hg4 (fun j h=>(ho.lt j h).1);go_wp2_with fail
     go_roundw
     case rel=>exact ⟨k + 1,true,o ++ [(0,c)],by go_num,rfl,by omega,ho4,HF2.out,hq4⟩
     case measure=>simp [intOf];omega
  ·have hke:k = cs.length:=by have:=HN.out;omega
   have hnlt:¬ (k:Int) < (n:Int):=by omega
   have hfin:=HF.out;rw [hke] at hfin;have HRF:=Hd (HR.out.trans hfin.fin);have hole:o.length <= s.size:=by have:=HF.out.2;omega
   clear hfin hke;cases b
   ·go_wp2_with fail
    refine (need_yes _).mono ?_;rintro e w3 ⟨rfl,rfl⟩;go_wp2_with fail
    go_ret
    exact ⟨hq2.trans hq,.inl ⟨_,_,HRF.out,rfl,ho.mono hq2.le,hole⟩⟩
   ·go_wp2_with fail
    refine (need_no _).mono ?_;rintro e w3 ⟨rfl,rfl⟩;go_wp2_with fail
    exact ⟨rfl,hq2.trans hq,.inr ⟨HRF.out,rfl⟩⟩
end Pg
end
end Go.Proofs.YtdjhkbholijnmaaGreatDoor
