/- The forty records: the mathematics. (and more) -/
import Derived.Test.YteggfkbnnmpcjaaGreatDoorR13
import Derived.Test.YteggfkbnnmpcjaaGreatDoorR04
set_option linter.all false
set_option maxRecDepth 100000
set_option maxHeartbeats 8000000
namespace Go.Proofs.YteggfkbnnmpcjaaGreatDoor
section
namespace Fm
open Lm
def tab:List Rec:=[
 ⟨[97,114,45,69,71],[194,164,35,44,35,35,48,46,48,48],[97,114,97,98],[217,171],[217,172],[45],[217,170],[69,71,80]⟩,
 ⟨[98,103,45,66,71],[48,46,48,48,194,160,194,164],[108,97,116,110],[44],[],[45],[37],[66,71,78]⟩,
 ⟨[98,110,45,66,68],[35,44,35,35,44,35,35,48,46,48,48,194,164],[98,101,110,103],[46],[44],[45],[37],[224,167,179]⟩,
 ⟨[99,115,45,67,90],[35,44,35,35,48,46,48,48,194,160,194,164],[108,97,116,110],[44],[226,128,175],[45],[37],[75,196,141]⟩,
 ⟨[100,97,45,68,75],[35,44,35,35,48,46,48,48,194,160,194,164],[108,97,116,110],[44],[46],[45],[37],[107,114]⟩,
 ⟨[100,101,45,65,84],[194,164,194,160,35,44,35,35,48,46,48,48],[108,97,116,110],[44],[46],[45],[37],[226,130,172]⟩,
 ⟨[100,101,45,67,72],[194,164,194,160,35,44,35,35,48,46,48,48,59,194,164,45,35,44,35,35,48,46,48,48],[108,97,116,110],[46],[226,128,153],[45],[37],[67,72,70]⟩,
 ⟨[100,101,45,68,69],[35,44,35,35,48,46,48,48,194,160,194,164],[108,97,116,110],[44],[46],[45],[37],[226,130,172]⟩,
 ⟨[100,122,45,66,84],[194,164,35,44,35,35,44,35,35,48,46,48,48],[116,105,98,116],[46],[44],[45],[37],[78,117]⟩,
 ⟨[101,108,45,71,82],[35,44,35,35,48,46,48,48,194,160,194,164],[108,97,116,110],[44],[46],[45],[37],[226,130,172]⟩,
 ⟨[101,110,45,71,66],[194,164,35,44,35,35,48,46,48,48],[108,97,116,110],[46],[44],[45],[37],[194,163]⟩,
 ⟨[101,110,45,73,78],[194,164,35,44,35,35,44,35,35,48,46,48,48],[108,97,116,110],[46],[44],[45],[37],[226,130,185]⟩,
 ⟨[101,110,45,85,83],[194,164,35,44,35,35,48,46,48,48],[108,97,116,110],[46],[44],[45],[37],[36]⟩,
 ⟨[101,115,45,69,83],[35,44,35,35,48,46,48,48,194,160,194,164],[108,97,116,110],[44],[46],[45],[37],[226,130,172]⟩,
 ⟨[101,116,45,69,69],[35,44,35,35,48,46,48,48,194,160,194,164],[108,97,116,110],[44],[226,128,175],[226,136,146],[37],[226,130,172]⟩,
 ⟨[102,97,45,73,82],[35,44,35,35,48,46,48,48],[97,114,97,98,101,120,116],[217,171],[217,172],[226,136,146],[217,170],[]⟩,
 ⟨[102,105,45,70,73],[35,44,35,35,48,46,48,48,194,160,194,164],[108,97,116,110],[44],[226,128,175],[226,136,146],[37],[226,130,172]⟩,
 ⟨[102,114,45,67,65],[35,44,35,35,48,46,48,48,194,160,194,164],[108,97,116,110],[44],[226,128,175],[45],[37],[36]⟩,
 ⟨[102,114,45,70,82],[35,44,35,35,48,46,48,48,194,160,194,164],[108,97,116,110],[44],[226,128,175],[45],[37],[226,130,172]⟩,
 ⟨[103,117,45,73,78],[194,164,35,44,35,35,44,35,35,48,46,48,48],[103,117,106,114],[46],[44],[45],[37],[226,130,185]⟩,
 ⟨[104,101,45,73,76],[35,44,35,35,48,46,48,48,194,160,194,164],[108,97,116,110],[46],[44],[45],[37],[226,130,170]⟩,
 ⟨[104,105,45,73,78],[194,164,35,44,35,35,44,35,35,48,46,48,48],[100,101,118,97],[46],[44],[45],[37],[226,130,185]⟩,
 ⟨[104,117,45,72,85],[35,44,35,35,48,46,48,48,194,160,194,164],[108,97,116,110],[44],[226,128,175],[45],[37],[70,116]⟩,
 ⟨[105,100,45,73,68],[194,164,194,160,35,44,35,35,48,46,48,48],[108,97,116,110],[44],[46],[45],[37],[82,112]⟩,
 ⟨[106,97,45,74,80],[194,164,35,44,35,35,48],[108,97,116,110],[46],[44],[45],[37],[239,191,165]⟩,
 ⟨[107,109,45,75,72],[35,44,35,35,48,46,48,48,194,164],[107,104,109,114],[44],[46],[45],[37],[225,159,155]⟩,
 ⟨[107,110,45,73,78],[194,164,35,44,35,35,44,35,35,48,46,48,48],[107,110,100,97],[46],[44],[45],[37],[226,130,185]⟩,
 ⟨[107,111,45,75,82],[194,164,35,44,35,35,48],[108,97,116,110],[46],[44],[45],[37],[226,130,169]⟩,
 ⟨[108,111,45,76,65],[194,164,35,44,35,35,48,46,48,48,59,194,164,45,35,44,35,35,48,46,48,48],[108,97,111,111],[44],[46],[45],[37],[226,130,173]⟩,
 ⟨[109,114,45,73,78],[194,164,35,44,35,35,44,35,35,48,46,48,48],[100,101,118,97],[46],[44],[45],[37],[226,130,185]⟩,
 ⟨[109,121,45,77,77],[35,44,35,35,48,46,48,48,194,160,194,164],[109,121,109,114],[46],[44],[45],[37],[75]⟩,
 ⟨[110,98,45,78,79],[194,164,194,160,35,44,35,35,48,46,48,48,59,194,164,194,160,45,35,44,35,35,48,46,48,48],[108,97,116,110],[44],[226,128,175],[226,136,146],[37],[107,114]⟩,
 ⟨[110,108,45,78,76],[194,164,194,160,35,44,35,35,48,46,48,48,59,194,164,194,160,45,35,44,35,35,48,46,48,48],[108,97,116,110],[44],[46],[45],[37],[226,130,172]⟩,
 ⟨[112,108,45,80,76],[35,44,35,35,48,46,48,48,194,160,194,164],[108,97,116,110],[44],[226,128,175],[45],[37],[122,197,130]⟩,
 ⟨[112,116,45,66,82],[194,164,194,160,35,44,35,35,48,46,48,48],[108,97,116,110],[44],[46],[45],[37],[82,36]⟩,
 ⟨[114,117,45,82,85],[35,44,35,35,48,46,48,48,194,160,194,164],[108,97,116,110],[44],[226,128,175],[45],[37],[226,130,189]⟩,
 ⟨[115,108,45,83,73],[35,44,35,35,48,46,35,35,37],[108,97,116,110],[44],[46],[226,136,146],[37],[]⟩,
 ⟨[116,97,45,73,78],[194,164,194,160,35,44,35,35,44,35,35,48,46,48,48],[116,97,109,108,100,101,99],[46],[44],[45],[37],[226,130,185]⟩,
 ⟨[116,104,45,84,72],[194,164,35,44,35,35,48,46,48,48],[116,104,97,105],[46],[44],[45],[37],[224,184,191]⟩,
 ⟨[122,104,45,67,78],[194,164,35,44,35,35,48,46,48,48],[108,97,116,110],[46],[44],[45],[37],[194,165]⟩]
def rec0:Rec:=⟨[],[],[],[],[],[],[],[]⟩
def T (i:Nat):Rec:=tab.getD i rec0
def ptC:List (List Int):=[[164,35,44,35,35,48,46,48,48],[48,46,48,48,160,164],[35,44,35,35,44,35,35,48,46,48,48,164],[35,44,35,35,48,46,48,48,160,164],[164,160,35,44,35,35,48,46,48,48],[164,160,35,44,35,35,48,46,48,48,59,164,45,35,44,35,35,48,46,48,48],[164,35,44,35,35,44,35,35,48,46,48,48],[35,44,35,35,48,46,48,48],[164,35,44,35,35,48],[35,44,35,35,48,46,48,48,164],[164,35,44,35,35,48,46,48,48,59,164,45,35,44,35,35,48,46,48,48],[164,160,35,44,35,35,48,46,48,48,59,164,160,45,35,44,35,35,48,46,48,48],[35,44,35,35,48,46,35,35,37],[164,160,35,44,35,35,44,35,35,48,46,48,48]]
def ptB:List By:=[[194,164,35,44,35,35,48,46,48,48],[48,46,48,48,194,160,194,164],[35,44,35,35,44,35,35,48,46,48,48,194,164],[35,44,35,35,48,46,48,48,194,160,194,164],[194,164,194,160,35,44,35,35,48,46,48,48],[194,164,194,160,35,44,35,35,48,46,48,48,59,194,164,45,35,44,35,35,48,46,48,48],[194,164,35,44,35,35,44,35,35,48,46,48,48],[35,44,35,35,48,46,48,48],[194,164,35,44,35,35,48],[35,44,35,35,48,46,48,48,194,164],[194,164,35,44,35,35,48,46,48,48,59,194,164,45,35,44,35,35,48,46,48,48],[194,164,194,160,35,44,35,35,48,46,48,48,59,194,164,194,160,45,35,44,35,35,48,46,48,48],[35,44,35,35,48,46,35,35,37],[194,164,194,160,35,44,35,35,44,35,35,48,46,48,48]]
def ptN:List Nat:=[0,1,2,3,3,4,5,3,6,3,0,6,0,3,3,7,3,3,3,6,3,6,3,4,8,9,6,8,10,6,3,11,11,3,4,3,12,13,0,0]
def nP (i:Nat):Nat:=ptN.getD i 0
def ptX:List Pt.Pat:=ptC.map fun c=>(Pt.parseC c).1
def P (p:Nat):Pt.Pat:=ptX.getD p Pt.pat0
theorem tab_len:tab.length = 40:=by decide
theorem nP_lt:∀ i,i < 40 -> nP i < 14:=by decide +kernel
theorem pat_of:∀ i,i < 40 -> (T i).pat = ptB.getD (nP i) []:=by decide +kernel
theorem ptC_B:∀ p,p < 14 -> Um.joinL (ptC.getD p []) = ptB.getD p [] /\ (Pt.parseC (ptC.getD p [])).1 = P p /\ (ptC.getD p []).all (fun c=>Um.vld c) = true:=by decide +kernel
def okB (r:Rec) (X:Pt.Pat):Bool :=
 (r.nam.all fun b=>(decide (97 <= b.toNat) && decide (b.toNat <= 122)) || ((decide (65 <= b.toNat) && decide (b.toNat <= 90)) || decide (b.toNat = 45))) &&
 (decide (1 <= r.nam.length) && (decide (r.nam.length <= 16) &&
 (decide (cnt 3 X.pre = 0) && (decide (cnt 3 X.suf = 0) && (decide (cnt 3 X.npre + cnt 3 X.nsuf = 1) &&
 (decide (0 <= Sm.nz r.sys) && (decide (r.sys.length <= 16) && (symB r.dec && (symB r.min && (decide (0 <= X.pr) &&
 ((if 0 < X.pr then symB r.grp else decide (r.grp = [])) &&
 ((wordB r.per || (decide (r.per = []) && (affs X).all fun A=>decide (cnt 2 A = 0))) &&
 ((wordB r.cur || (decide (r.cur = []) && (affs X).all fun A=>decide (cnt 1 A = 0))) &&
 (((affs X).all fun A=>decide (A.length <= 10) && A.all (fun x=>decide (0 <= x.1 /\ x.1 <= 3) && (decide (x.2.length <= 10) && ((x.1 != 0 || Cm.plainB (Um.allL x.2)) && (x.1 == 0 || x.2 == []))))) &&
 (((affs X).all fun A=>decide ((atx r A).length <= 64)) &&
 (decide ((syms r).Nodup) &&
 (((List.range 13).all fun i=>decide (i = 11) || decide (0 < ((syms r).getD i ⟨#[]⟩).size)) &&
 (clus r X).all fun c=>notin c (syms r))))))))))))))))))
theorem ok_of {r:Rec} {X:Pt.Pat} (h:okB r X = true):Ok r X:=by
 unfold okB at h;simp only [Bool.and_eq_true,decide_eq_true_eq,List.all_eq_true,Bool.or_eq_true,bne_iff_ne,ne_eq,beq_iff_eq,List.mem_range] at h;obtain ⟨h1,h2,h3,h4,h5,h6,h7,h8,h9,h10,h11,h12,h13,h14,h15,h16,h17,h18,h19⟩:=h;exact {
  nam:=h1
  nam1:=⟨h2,h3⟩
  sg:=⟨h4,h5,h6⟩
  sys:=h7
  sysl:=h8
  dec:=h9
  min:=h10
  pr:=h11
  grp1:=fun h=>by rwa [if_pos h] at h12
  grp0:=fun h=>by rw [if_neg h] at h12;exact of_decide_eq_true h12
  per:=h13
  cur:=h14
  aff:=fun A hA=>⟨(h15 A hA).1,fun x hx=>by
   obtain ⟨g1,g2,g3,g4⟩:=(h15 A hA).2 x hx;exact ⟨g1,g2,fun e=>g3.resolve_left (fun n=>n e),fun e=>g4.resolve_left e⟩⟩
  len:=h16
  dis:=h17
  ne:=fun i x hx hi=>by
   have hl:i < 13:=(List.getElem?_eq_some_iff.1 hx).1;have:=(h18 i hl).resolve_left hi;rwa [List.getD_eq_getElem?_getD,hx] at this
  cl:=fun c hc=>of_notin (h19 c hc) }
theorem f_ok0:∀ i,i < 8 -> okB (T (0 + i)) (P (nP (0 + i))) = true:=by decide +kernel
theorem f_ok8:∀ i,i < 8 -> okB (T (8 + i)) (P (nP (8 + i))) = true:=by decide +kernel
theorem f_ok16:∀ i,i < 8 -> okB (T (16 + i)) (P (nP (16 + i))) = true:=by decide +kernel
theorem f_ok24:∀ i,i < 8 -> okB (T (24 + i)) (P (nP (24 + i))) = true:=by decide +kernel
theorem f_ok32:∀ i,i < 8 -> okB (T (32 + i)) (P (nP (32 + i))) = true:=by decide +kernel
theorem f_ok (i:Nat) (h:i < 40):Ok (T i) (P (nP i)):=by
 refine ok_of ?_;by_cases h1:i < 8
 ·have:=f_ok0 i h1;rwa [Nat.zero_add] at this
 ·by_cases h2:i < 16
  ·have:=f_ok8 (i - 8) (by omega);rwa [show 8 + (i - 8) = i by omega] at this
  ·by_cases h3:i < 24
   ·have:=f_ok16 (i - 16) (by omega);rwa [show 16 + (i - 16) = i by omega] at this
   ·by_cases h4:i < 32
    ·have:=f_ok24 (i - 24) (by omega);rwa [show 24 + (i - 24) = i by omega] at this
    ·have:=f_ok32 (i - 32) (by omega);rwa [show 32 + (i - 32) = i by omega] at this
/-! ### names, languages -/
def nam (i:Nat):By:=(T i).nam
end Fm
end
section
namespace Im
def affE (r:Lm.Rec) (p:Pb.E):E:=if p.1 = true then (1,Lm.bs r.min,-1) else (0,Lm.bs p.2,-1)
def affI (r:Lm.Rec) (l:List Pb.E):List E:=l.map (affE r)
theorem affI_len (r:Lm.Rec) (l:List Pb.E):(affI r l).length = l.length:=List.length_map _
theorem affI_take (r:Lm.Rec) (l:List Pb.E) (k:Nat) (hk:k < l.length):affI r (l.take (k + 1)) = affI r (l.take k) ++ [affE r (l.getD k (false,[]))]:=by
 unfold affI;rw [List.take_add_one,List.getElem?_eq_getElem hk,List.map_append,List.getD_eq_getElem?_getD,List.getElem?_eq_getElem hk];rfl
def grpI (r:Lm.Rec) (l p s:Int):List E:=if endB l p s = true then [(3,Lm.bs r.grp,-1)] else []
theorem grpI_len (r:Lm.Rec) (l p s:Int):(grpI r l p s).length <= 1:=by unfold grpI;split <;> simp
def dgE (r:Lm.Rec) (x:Int) (i:Int):E:=(2,Lm.dgt r x.toNat,i)
def whI (r:Lm.Rec) (p s:Int) (I:List Int):Nat -> List E
 | 0=>[]
 | k + 1=>whI r p s I k ++ (dgE r (I.getD k 0) k :: grpI r ((I.length:Int) - 1 - k) p s)
theorem whI_succ (r:Lm.Rec) (p s:Int) (I:List Int) (k:Nat):whI r p s I (k + 1) = whI r p s I k ++ (dgE r (I.getD k 0) k :: grpI r ((I.length:Int) - 1 - k) p s):=rfl
theorem whI_len (r:Lm.Rec) (p s:Int) (I:List Int) (k:Nat):(whI r p s I k).length <= 2 * k:=by
 induction k with
 | zero=>simp [whI]
 | succ k ih =>
  rw [whI_succ,List.length_append,List.length_cons];have:=grpI_len r ((I.length:Int) - 1 - k) p s;omega
def reI (r:Lm.Rec) (n:Nat) (F:List Int):Nat -> List E
 | 0=>[(4,Lm.bs r.dec,(n:Int))]
 | k + 1=>reI r n F k ++ [dgE r (F.getD k 0) ((n:Int) + ((k + 1:Nat):Int))]
theorem reI_zero (r:Lm.Rec) (n:Nat) (F:List Int):reI r n F 0 = [(4,Lm.bs r.dec,(n:Int))]:=rfl
theorem reI_succ (r:Lm.Rec) (n:Nat) (F:List Int) (k:Nat):reI r n F (k + 1) = reI r n F k ++ [dgE r (F.getD k 0) ((n:Int) + ((k + 1:Nat):Int))]:=rfl
theorem reI_len (r:Lm.Rec) (n:Nat) (F:List Int) (k:Nat):(reI r n F k).length = k + 1:=by
 induction k with
 | zero=>rfl
 | succ k ih=>rw [reI_succ,List.length_append,ih];rfl
def resI (r:Lm.Rec) (d:Tm.T):List E:=if d.s = true then reI r d.i.length d.f d.f.length else []
theorem resI_len (r:Lm.Rec) (d:Tm.T):(resI r d).length <= d.f.length + 1:=by
 unfold resI;split
 ·rw [reI_len];omega
 ·simp
def midI (r:Lm.Rec) (p s:Int) (d:Tm.T):List E:=whI r p s d.i d.i.length ++ resI r d
def itm (r:Lm.Rec) (p s:Int) (d:Tm.T) (A B:List Pb.E):List E:=affI r A ++ whI r p s d.i d.i.length ++ resI r d ++ affI r B
theorem itm_mid (r:Lm.Rec) (p s:Int) (d:Tm.T) (A B:List Pb.E):itm r p s d A B = affI r A ++ midI r p s d ++ affI r B:=by
 unfold itm midI;simp [List.append_assoc]
theorem itm_len (r:Lm.Rec) (p s:Int) (d:Tm.T) (A B:List Pb.E):(itm r p s d A B).length <= A.length + 2 * d.i.length + d.f.length + 1 + B.length:=by
 unfold itm;rw [List.length_append,List.length_append,List.length_append,affI_len,affI_len];have h1:=whI_len r p s d.i d.i.length;have h2:=resI_len r d;omega
def stpI (r:Lm.Rec) (p s n:Int) (L:List Int) (k:Nat):List E:=if L.getD k 0 = 10 then [(4,Lm.bs r.dec,(k:Int))] else dgE r (L.getD k 0) k :: grpI r (n - 1 - k) p s
def rowI (r:Lm.Rec) (p s n:Int) (L:List Int):Nat -> List E
 | 0=>[]
 | k + 1=>rowI r p s n L k ++ stpI r p s n L k
theorem rowI_zero (r:Lm.Rec) (p s n:Int) (L:List Int):rowI r p s n L 0 = []:=rfl
theorem rowI_succ (r:Lm.Rec) (p s n:Int) (L:List Int) (k:Nat):rowI r p s n L (k + 1) = rowI r p s n L k ++ stpI r p s n L k:=rfl
theorem stpI_len (r:Lm.Rec) (p s n:Int) (L:List Int) (k:Nat):(stpI r p s n L k).length <= 2:=by
 unfold stpI;split
 ·simp
 ·rw [List.length_cons];have:=grpI_len r (n - 1 - k) p s;omega
theorem rowI_len (r:Lm.Rec) (p s n:Int) (L:List Int) (k:Nat):(rowI r p s n L k).length <= 2 * k:=by
 induction k with
 | zero=>simp [rowI]
 | succ k ih =>
  rw [rowI_succ,List.length_append];have:=stpI_len r p s n L k;omega
theorem digit_at {I:List Int} (h:Dm.okD I) (k:Nat):0 <= I.getD k 0 /\ I.getD k 0 <= 9:=by
 rw [List.getD_eq_getElem?_getD];cases hk:I[k]? with
 | none=>simp
 | some x =>
  have:=h x (List.mem_of_getElem? hk);simpa using this
theorem row_whole (r:Lm.Rec) (p s:Int) (I R:List Int) (hI:Dm.okD I) (k:Nat) (hk:k <= I.length):rowI r p s I.length (I ++ R) k = whI r p s I k:=by
 induction k with
 | zero=>rfl
 | succ k ih =>
  rw [rowI_succ,whI_succ,ih (by omega)];have e:(I ++ R).getD k 0 = I.getD k 0:=by
   rw [List.getD_eq_getElem?_getD,List.getD_eq_getElem?_getD,List.getElem?_append_left (by omega)]
  have h:=digit_at hI k;unfold stpI;rw [e,if_neg (by omega)]
theorem row_rest (r:Lm.Rec) (p s:Int) (I F:List Int) (hI:Dm.okD I) (hF:Dm.okD F) (k:Nat) (hk:k <= F.length):rowI r p s I.length (I ++ [10] ++ F) (I.length + 1 + k) = whI r p s I I.length ++ reI r I.length F k:=by
 induction k with
 | zero =>
  rw [Nat.add_zero,rowI_succ,List.append_assoc,row_whole r p s I _ hI _ (Nat.le_refl _)];congr 1
  unfold stpI;rw [List.getD_eq_getElem?_getD,List.getElem?_append_right (Nat.le_refl _)];simp [reI_zero]
 | succ k ih =>
  rw [<- Nat.add_assoc,rowI_succ,ih (by omega),reI_succ,List.append_assoc];congr 2
  have e:(I ++ [10] ++ F).getD (I.length + 1 + k) 0 = F.getD k 0:=by
   rw [List.getD_eq_getElem?_getD,List.getD_eq_getElem?_getD,List.getElem?_append_right (by simp),List.length_append];congr 2
   simp
  have h:=digit_at hF k;unfold stpI grpI;rw [e,if_neg (by omega),endB_low (by omega)];simp [dgE];omega
theorem row_all (r:Lm.Rec) (p s:Int) (d:Tm.T) (h:Tm.may d = true):rowI r p s d.i.length (Tm.ats d) (Tm.ats d).length = midI r p s d:=by
 obtain ⟨h1,h2,h3⟩:=Tm.may_dig h;unfold midI resI;cases hs:d.s
 ·have hf:=h3 hs
  have e:Tm.ats d = d.i ++ []:=by unfold Tm.ats;rw [hs,hf];simp [Tm.sep]
  rw [e,row_whole r p s d.i [] h1 _ (by simp)];simp
 ·have e:Tm.ats d = d.i ++ [10] ++ d.f:=by unfold Tm.ats;rw [hs];rfl
  have e2:(d.i ++ ([10]:List Int) ++ d.f).length = d.i.length + 1 + d.f.length:=by simp;omega
  rw [e,e2,row_rest r p s d.i d.f h1 h2 _ (Nat.le_refl _),if_pos rfl]
end Im
end
section
open Go.RowKit
namespace Pr
open Pt Um
theorem elB:Pc.El 173 27:=⟨by kernel_rfl,Tryz.underlying27⟩
abbrev OwnB (w:World) (B:Nat) (v:Value) (l:List Pc.E):Prop:=Pc.OwnE 173 w B v l
def tkP (l:List (Int × Int)):List Pc.E:=l.map fun x=>(x.1,encL x.2)
theorem tkP_app (a:List (Int × Int)) (x:Int × Int):tkP (a ++ [x]) = tkP a ++ [(x.1,encL x.2)]:=by simp [tkP]
theorem encL_quote:encL 39 = [39]:=by decide +kernel
theorem tok_turn (q:Bool) (r:List Int) (h:r = [] \/ r.getD 0 0 ≠ 39):tokS q true r = tokS (!q) false r:=by
 cases r with
 | nil=>cases q <;> rfl
 | cons c r =>
  have hc:c ≠ 39:=by
   rcases h with h | h
   ·cases h
   ·simpa using h
  rw [tokS_cons,tokS_cons,if_neg hc,if_neg hc];cases q <;> rfl
theorem drop_at (cs:List Int) (k:Nat) (hk:k < cs.length):cs.drop k = cs.getD k 0 :: cs.drop (k + 1):=by
 rw [List.getD_eq_getElem?_getD,List.getElem?_eq_getElem hk];exact List.drop_eq_getElem_cons hk
def Far (cs:List Int) (k:Nat) (q:Bool) (o:List (Int × Int)):Prop:=(tokS q false (cs.drop k)).map (o ++ ·) = tkn cs /\ o.length <= k
theorem Far.start (cs:List Int):Far cs 0 false []:=⟨by unfold tkn;simp,by simp⟩
theorem Far.two {cs:List Int} {k:Nat} {q:Bool} {o:List (Int × Int)} (h:Far cs k q o) (hk:k + 1 < cs.length) (h1:cs.getD k 0 = 39) (h2:cs.getD (k + 1) 0 = 39):Far cs (k + 2) q (o ++ [(0,39)]):=by
 obtain ⟨h,hl⟩:=h;rw [drop_at cs k (by omega),h1,drop_at cs (k + 1) hk,h2,tokS_cons,if_pos rfl,if_neg (by decide),tokS_cons,if_pos rfl,if_pos rfl,Option.map_map] at h;refine ⟨?_,by simp;omega⟩;rw [<- h];congr 1
 funext x;simp
theorem Far.turn {cs:List Int} {k:Nat} {q:Bool} {o:List (Int × Int)} (h:Far cs k q o) (hk:k < cs.length) (h1:cs.getD k 0 = 39) (h2:¬ (k + 1 < cs.length /\ cs.getD (k + 1) 0 = 39)):Far cs (k + 1) (!q) o:=by
 obtain ⟨h,hl⟩:=h;rw [drop_at cs k hk,h1,tokS_cons,if_pos rfl,if_neg (by decide)] at h;refine ⟨?_,by omega⟩;rw [<- h,tok_turn q];by_cases hn:k + 1 < cs.length
 ·right
  rw [drop_at cs (k + 1) hn];simpa using fun e=>h2 ⟨hn,by simpa using e⟩
 ·left
  exact List.drop_eq_nil_of_le (by omega)
theorem Far.in {cs:List Int} {k:Nat} {o:List (Int × Int)} (h:Far cs k true o) (hk:k < cs.length) (h1:cs.getD k 0 ≠ 39):Far cs (k + 1) true (o ++ [(0,cs.getD k 0)]):=by
 obtain ⟨h,hl⟩:=h;rw [drop_at cs k hk,tokS_cons,if_neg h1,if_pos (by decide),Option.map_map] at h;refine ⟨?_,by simp;omega⟩;rw [<- h];congr 1
 funext x;simp
theorem Far.bad {cs:List Int} {k:Nat} {o:List (Int × Int)} (h:Far cs k false o) (hk:k < cs.length) (h1:cs.getD k 0 ≠ 39) (h6:kindC (cs.getD k 0) = 6):tkn cs = none:=by
 obtain ⟨h,hl⟩:=h;rw [drop_at cs k hk,tokS_cons,if_neg h1,if_neg (by decide),if_pos h6] at h;exact h.symm
theorem Far.out {cs:List Int} {k:Nat} {o:List (Int × Int)} (h:Far cs k false o) (hk:k < cs.length) (h1:cs.getD k 0 ≠ 39) (h6:kindC (cs.getD k 0) ≠ 6):Far cs (k + 1) false (o ++ [(kindC (cs.getD k 0),cs.getD k 0)]):=by
 obtain ⟨h,hl⟩:=h;rw [drop_at cs k hk,tokS_cons,if_neg h1,if_neg (by decide),if_neg h6,Option.map_map] at h;refine ⟨?_,by simp;omega⟩;rw [<- h];congr 1
 funext x;simp
theorem Far.fin {cs:List Int} {q:Bool} {o:List (Int × Int)} (h:Far cs cs.length q o):tkn cs = if q = true then none else some o:=by
 obtain ⟨h,hl⟩:=h;rw [List.drop_eq_nil_of_le (Nat.le_refl _)] at h;rw [<- h];cases q <;> simp [tokS]
theorem tokens_any (s:ByteArray) (w:World) (hs:s.size <= 1000000) :
  Calls Tryz.prog 137 #[.string s] w fun e w'=>∃ v,e = .returned (.tuple #[v,.bool (tkn (allL s.data.toList)).isSome]) /\ (∀ l,tkn (allL s.data.toList) = some l -> OwnB w' w.heap.size v (tkP l)) /\ Q w w':=by
 have hal:=fun w=>Ur.all_any s w (by omega);have hml:=marks_length s.data.toList;rw [size_list] at hml;have hcl:(allL s.data.toList).length <= 1000000:=by unfold allL;simp;omega
 clear hml;generalize allL s.data.toList = cs at *;obtain ⟨n,hn⟩:∃ n,n = cs.length:=⟨_,rfl⟩;have HN:=Hd hn;rw [<- hn] at hcl;obtain ⟨R,hR⟩:∃ R,R = tkn cs:=⟨_,rfl⟩;have HR:=Hd hR;rw [<- hR];clear hn hR;go_enter Tryz.func137,Tryz.ntmps137
 go_wp2_with fail
 refine (hal _).mono ?_;rintro e w2 ⟨v,u,rfl,hv,hu,_,hq2⟩;have HV:=Hd hv.lst;obtain ⟨a,cp,rfl,_,_⟩:=hv.lst.form0 HN.out.symm;clear hv hal hu;go_wp2_with fail
 go_loopw [7,8,9] (fun u q i wr=>∃ (k:Nat) (b:Bool) (o:List (Int × Int)),i = .int .i64 k /\ q = .bool b /\ k <= n /\ OwnB wr w2.heap.size u (tkP o) /\ Far cs k b o /\ Q w2 wr) (fun _ _ i _=>n - (intOf i).toNat)
 case atStart=>exact ⟨0,false,[],rfl,rfl,by omega,Pc.OwnE.nil _ _ _,Far.start cs,Q.refl _⟩
 case round =>
  obtain ⟨k,b,o,rfl,rfl,hk,ho,hf,hq⟩:=hrel;have hqs:=hq.le;have HF:=Hd hf;have hol:(tkP o).length < 1073741824:=by unfold tkP;rw [List.length_map];have:=hf.2;omega
  clear hf;by_cases hlt:k < n
  ·have hlti:(k:Int) < (n:Int):=by omega
   have hkl:k < cs.length:=by have:=HN.out;omega
   obtain ⟨g,off,cap,hvv,hg,hnc,hcm,hca⟩:=HV.out.cellOf HN.out.symm hlt;cases hvv;have hcell:∀ j,j < n -> wr.cell? ⟨g,off + j,none⟩ = some (.int .i64 (cs.getD j 0)):=by
    intro j hj;obtain ⟨g',off',cap',hvv',hg',_,_,hcj⟩:=HV.out.cellOf HN.out.symm hj;cases hvv';exact (World.cell?_of_block (w:=w2) (hq.block hg')).trans hcj
   have c1:=hcell k hlt;have HCE:=Hd hcell;clear hca hcell;have F1:=fun h1 h2 h3=>HF.out.two h1 h2 h3;have F2:=fun h1 h2=>HF.out.turn hkl h1 h2;obtain ⟨c,hc⟩:∃ c,c = cs.getD k 0:=⟨_,rfl⟩;rw [<- hc] at c1 F1 F2;have HC:=Hd hc;clear hc;by_cases h39:c = 39
   ·subst h39
    by_cases hn1:k + 1 < n
    ·have hn1i:(k:Int) + 1 < (n:Int):=by omega
     have hmin:min ((k:Int) + 1) ((n:Int) - 1) = ((k + 1:Nat):Int):=by omega
     have c2:=HCE.out (k + 1) hn1;obtain ⟨d,hd⟩:∃ d,d = cs.getD (k + 1) 0:=⟨_,rfl⟩;rw [<- hd] at c2 F1 F2;have HD:=Hd hd;clear hd;by_cases hd9:d = 39
     ·subst hd9
      have HF2:=Hd (F1 (by have:=HN.out;omega) rfl rfl);clear F1 F2;go_wp2_with (at_builtin;refine Pc.push elB ho rfl _ _ rfl 0 ⟨#[39]⟩ (by rfl) (by rfl) hol hqs ?_)
      intro v' w4 ho4 hg4 hat4;have HO4:Hid (OwnB w4 w2.heap.size v' (tkP (o ++ [(0,39)]))):=Hd (by rw [tkP_app,encL_quote];exact ho4);have hq4:=hq.grown hg4 (fun j h=>(ho.lt j h).1);clear ho4;go_wp2_with fail
      go_roundw
      case rel=>exact ⟨k + 2,b,o ++ [(0,39)],by go_num,rfl,by omega,HO4.out,HF2.out,hq4⟩
      case measure=>simp [intOf];omega
     ·have hdb:(d == 39) = false:=beq_eq_false_iff_ne.2 hd9
      have HF2:=Hd (F2 rfl (fun h=>hd9 h.2));clear F1 F2;go_wp2_with fail
      go_roundw
      case rel=>exact ⟨k + 1,!b,o,by go_num,rfl,by omega,ho,HF2.out,hq⟩
      case measure=>simp [intOf];omega
    ·have hn1i:¬ (k:Int) + 1 < (n:Int):=by omega
     have HF2:=Hd (F2 rfl (fun h=>hn1 (by have:=HN.out;omega)));clear F1 F2;go_wp2_with fail
     go_roundw
     case rel=>exact ⟨k + 1,!b,o,by go_num,rfl,by omega,ho,HF2.out,hq⟩
     case measure=>simp [intOf];omega
   ·have hcb:(c == 39) = false:=beq_eq_false_iff_ne.2 h39
    clear F1 F2;cases b
    ·have G1:=fun h=>HF.out.bad hkl (by rw [<- HC.out];exact h39) h
     have G2:=fun h=>HF.out.out hkl (by rw [<- HC.out];exact h39) h;have K1:=fun w=>kind_any c w;rw [<- HC.out] at G1 G2;obtain ⟨kc,hkc⟩:∃ kc,kc = kindC c:=⟨_,rfl⟩;rw [<- hkc] at G1 G2 K1;have HK1:=Hd K1;clear hkc K1;by_cases h6:kc = 6
     ·subst h6
      have HRN:Hid (R = none):=Hd (HR.out.trans (G1 rfl));clear G1 G2;go_wp2_with fail
      refine (HK1.out _).mono ?_;rintro e w3 ⟨rfl,rfl⟩;go_wp2_with fail
      go_ret2
      rw [HRN.out];exact ⟨_,rfl,fun l h=>(nomatch h),hq2.trans hq⟩
     ·have h6b:(kc == 6) = false:=beq_eq_false_iff_ne.2 h6
      have HF2:=Hd (G2 h6);clear G1 G2;go_wp2_with fail
      refine (HK1.out _).mono ?_;rintro e w3 ⟨rfl,rfl⟩;go_wp2_with fail
      refine (Ur.encode_any _ _).mono ?_;rintro e w3 ⟨rfl,hq3⟩;have ho3:=ho.q hq3;have hq23:=hq.trans hq3;have hqs3:=hq23.le;go_wp2_with (at_builtin;refine Pc.push elB ho3 rfl _ _ rfl kc (encB c) (by rfl) (by rfl) hol hqs3 ?_)
      intro v' w4 ho4 hg4 hat4;have HO4:Hid (OwnB w4 w2.heap.size v' (tkP (o ++ [(kc,c)]))):=Hd (by rw [tkP_app];exact ho4);have hq4:=hq23.grown hg4 (fun j h=>(ho3.lt j h).1);clear ho4;go_wp2_with fail
      go_roundw
      case rel=>exact ⟨k + 1,false,o ++ [(kc,c)],by go_num,rfl,by omega,HO4.out,HF2.out,hq4⟩
      case measure=>simp [intOf];omega
    ·have G2:=HF.out.in hkl (by rw [<- HC.out];exact h39)
     rw [<- HC.out] at G2;have HF2:=Hd G2;clear G2;go_wp2_with fail
     refine (Ur.encode_any _ _).mono ?_;rintro e w3 ⟨rfl,hq3⟩;have ho3:=ho.q hq3;have hq23:=hq.trans hq3;have hqs3:=hq23.le;go_wp2_with (at_builtin;refine Pc.push elB ho3 rfl _ _ rfl 0 (encB c) (by rfl) (by rfl) hol hqs3 ?_)
     intro v' w4 ho4 hg4 hat4;have HO4:Hid (OwnB w4 w2.heap.size v' (tkP (o ++ [(0,c)]))):=Hd (by rw [tkP_app];exact ho4);have hq4:=hq23.grown hg4 (fun j h=>(ho3.lt j h).1);clear ho4;go_wp2_with fail
     go_roundw
     case rel=>exact ⟨k + 1,true,o ++ [(0,c)],by go_num,rfl,by omega,HO4.out,HF2.out,hq4⟩
     case measure=>simp [intOf];omega
  ·have hke:k = cs.length:=by have:=HN.out;omega
   have hnlt:¬ (k:Int) < (n:Int):=by omega
   have hfin:=HF.out;rw [hke] at hfin;have HRF:=Hd (HR.out.trans hfin.fin);clear hfin hke;cases b
   ·go_wp2_with fail
    go_ret2
    rw [HRF.out];exact ⟨_,rfl,fun l h=>by cases h;exact ho.mono hq2.le,hq2.trans hq⟩
   ·go_wp2_with fail
    go_ret2
    rw [HRF.out];exact ⟨_,rfl,fun l h=>(nomatch h),hq2.trans hq⟩
end Pr
end
section
open Go.RowKit
namespace Sp
def plc (x:ByteArray):List ByteArray -> Nat -> Int
 | [],_=>-1
 | y :: r,k=>if x = y then (k:Int) else plc x r (k + 1)
theorem plc_at {x:ByteArray} {xs:List ByteArray} {k:Nat} {y:ByteArray} (h:xs[k]? = some y):plc x (xs.drop k) k = if x = y then (k:Int) else plc x (xs.drop (k + 1)) (k + 1):=by
 have hk:=(List.getElem?_eq_some_iff.1 h).1;have e:=(List.getElem?_eq_some_iff.1 h).2;rw [List.drop_eq_getElem_cons hk,e];rfl
theorem plc_neg {x:ByteArray} (xs:List ByteArray):∀ k,(0:Int) <= plc x xs k ↔ x ∈ xs:=by
 induction xs with
 | nil=>intro k;simp [plc]
 | cons y r ih =>
  intro k;unfold plc;by_cases h:x = y
  ·rw [if_pos h];simp [h]
  ·rw [if_neg h,ih];simp [h]
theorem idx_any (v:Value) (xs:List ByteArray) (x:ByteArray) (w:World) (hv:SLst w v xs) (hx:xs.length <= 1073741824) :
  Calls Tryz.prog 63 #[v,.string x] w fun e w'=>e = .returned (.int .i64 (plc x xs 0)) /\ w = w':=by
 obtain ⟨n,hn⟩:∃ n,n = xs.length:=⟨_,rfl⟩;have HN:=Hd hn;have HV:=Hd hv;obtain ⟨a,cp,rfl,hc1,hc2⟩:=hv.form0 hn.symm;rw [<- hn] at hx;obtain ⟨R,hR⟩:∃ R,R = plc x xs 0:=⟨_,rfl⟩;have HR:=Hd (show R = plc x (xs.drop 0) 0 by rw [hR];rfl);rw [<- hR];clear hn hv hR;go_enter Tryz.func63,Tryz.ntmps63
 go_wp2_with fail
 go_loopw [8] (fun i wr=>∃ k:Nat,i = .int .i64 k /\ k <= n /\ Hid (R = plc x (xs.drop k) k) /\ w = wr) (fun i _=>n - (intOf i).toNat)
 case atStart=>exact ⟨0,rfl,by omega,HR,rfl⟩
 case round =>
  obtain ⟨k,rfl,hk,HK,rfl⟩:=hrel;by_cases hlt:k < n
  ·have hlti:(k:Int) < (n:Int):=by omega
   have hkl:k < xs.length:=by have:=HN.out;omega
   obtain ⟨y,hy⟩:∃ y,xs[k]? = some y:=⟨xs[k],List.getElem?_eq_getElem hkl⟩;obtain ⟨g,off,cap,hvv,hg,_,_,c1⟩:=HV.out.cellOf HN.out.symm hy;cases hvv;have hp:=plc_at (x:=x) hy;by_cases hxy:x = y
   ·have HF:=Hd (show R = k by rw [HK.out,hp,if_pos hxy])
    have hb:(x.toList == y.toList) = true:=by rw [hxy];simp
    clear hp hy;go_wp2_with fail
    go_ret
    rw [HF.out];exact ⟨rfl,rfl⟩
   ·have HF:=Hd (show R = plc x (xs.drop (k + 1)) (k + 1) by rw [HK.out,hp,if_neg hxy])
    have hb:=str_ne hxy;clear hp hy;go_wp2_with fail
    exact ⟨⟨k + 1,by go_num,by omega,HF,trivial⟩,by simp [intOf];omega⟩
  ·have hnlt:¬ (k:Int) < (n:Int):=by omega
   have HF:=Hd (show R = -1 by rw [HK.out,List.drop_eq_nil_of_le (by have:=HN.out;omega)];rfl);go_wp2_with fail
   go_ret
   rw [HF.out];exact ⟨rfl,rfl⟩
theorem has_any (v:Value) (xs:List ByteArray) (x:ByteArray) (w:World) (hv:SLst w v xs) (hx:xs.length <= 1073741824) :
  Calls Tryz.prog 67 #[v,.string x] w fun e w'=>e = .returned (.bool (decide (0 <= plc x xs 0))) /\ w = w':=by
 have hI:=fun w hv=>idx_any v xs x w hv hx;obtain ⟨a,cp,rfl,hc1,hc2⟩:=hv.shape2;have HV:=Hd hv;generalize plc x xs 0 = R at *;have HI:=Hd hI;generalize xs.length = n at *;clear hI hv;go_enter Tryz.func67,Tryz.ntmps67
 go_wp2_with fail
 refine (HI.out _ HV.out).mono ?_;rintro e w1 ⟨rfl,rfl⟩;go_wp2_with fail
 go_ret
 exact ⟨rfl,rfl⟩
end Sp
namespace Pg
open Pt Um
def ordL (l:List UInt8) (a b:UInt8):Bool:=(Lib.trimB (Lib.trimLeftB l a) b).isEmpty
theorem ordered_any (s:ByteArray) (a b:UInt8) (ha:a.toNat < 128) (hb:b.toNat < 128) (w:World) (hs:s.size <= 1000000) :
  Calls Tryz.prog 195 #[.string s,.string ⟨#[a]⟩,.string ⟨#[b]⟩] w fun e w'=>e = .returned (.bool (ordL s.data.toList a b)) /\ Q w w':=by
 have h1:=fun w=>Sp.trimLeft_any s a ha w;have hl:(Lib.trimLeftB s.data.toList a).length <= 1000000:=by
  have:(Lib.trimLeftB s.data.toList a).length <= s.data.toList.length:=(List.dropWhile_sublist _).length_le;rw [size_list] at this;omega
 have h2:=fun w=>Sp.trim_any ⟨(Lib.trimLeftB s.data.toList a).toArray⟩ b hb w (by simp [ByteArray.size];omega);have e1:(⟨(Lib.trimLeftB s.data.toList a).toArray⟩:ByteArray).data.toList = Lib.trimLeftB s.data.toList a:=by simp
 rw [e1] at h2;unfold ordL;generalize Lib.trimLeftB s.data.toList a = L at *;obtain ⟨M,hM⟩:∃ M,M = Lib.trimB L b:=⟨_,rfl⟩;rw [<- hM] at h2 |-;have H1:=Hd h1;have H2:=Hd h2;have he:(⟨M.toArray⟩:ByteArray).toList.isEmpty = M.isEmpty:=by rw [ByteArray.toList_eq]
 obtain ⟨r,hr⟩:∃ r,r = M.isEmpty:=⟨_,rfl⟩;rw [<- hr] at he |-;generalize (⟨M.toArray⟩:ByteArray) = MM at *;clear h1 h2 hM hr e1;go_enter Tryz.func195,Tryz.ntmps195
 go_wp2_with fail
 refine (H1.out _).mono ?_;rintro e w1 ⟨rfl,rfl⟩;go_wp2_with fail
 refine (H2.out _).mono ?_;rintro e w2 ⟨rfl,hq⟩;go_wp2_with fail
 go_ret
 exact ⟨rfl,hq⟩
def prG (gs:List (List UInt8)) (frac:List UInt8) (pointed:Bool):Option Nb :=
 if ([]:List UInt8) ∈ gs then none
 else if (ordL gs.flatten 35 48 && ordL frac 48 35) = false then none
 else if (pointed == !frac.isEmpty) = false then none
 else some ⟨if 1 < gs.length then ((gs.getD (gs.length - 1) []).length:Int) else 0,if 2 < gs.length then ((gs.getD (gs.length - 2) []).length:Int) else if 1 < gs.length then ((gs.getD (gs.length - 1) []).length:Int) else 0,
  ((Lib.countByte gs.flatten 48:Nat):Int),((gs.flatten.length:Nat):Int),((Lib.countByte frac 48:Nat):Int),((frac.length:Nat):Int)⟩
def prN (s:List UInt8):Option Nb:=prG (Lib.split (Lib.cut s [46]).1 [44]) (Lib.cut s [46]).2.1 (Lib.cut s [46]).2.2
theorem infoN:(Tryz.prog.info? 184).map (·.size) = some 6:=by kernel_rfl
theorem extr_list {xs:List ByteArray} {gs:List (List UInt8)} (h:xs.map (·.data.toList) = gs) {k:Nat} (hk:k < gs.length):∃ y,xs[k]? = some y /\ y.size = (gs.getD k []).length:=by
 subst h;have hk':k < xs.length:=by simpa using hk
 refine ⟨xs[k],List.getElem?_eq_getElem hk',?_⟩;rw [List.getD_eq_getElem?_getD,List.getElem?_map,List.getElem?_eq_getElem hk'];simp [size_list]
theorem split_len (sep:List UInt8):∀ (k:Nat) (s:List UInt8),(Lib.splitK sep 0 k s).flatten.length <= s.length:=by
 intro k;induction k with
 | zero=>intro s;simp [Lib.splitK]
 | succ k ih =>
  intro s;unfold Lib.splitK;split
  ·simp
  ·have:=ih (s.drop ((Lib.index s sep).toNat + sep.length))
   rw [List.flatten_cons,List.length_append,List.length_take];rw [List.length_drop] at this;omega
theorem splitK_num (sep:List UInt8):∀ (k:Nat) (s:List UInt8),(Lib.splitK sep 0 k s).length <= k + 1:=by
 intro k;induction k with
 | zero=>intro s;simp [Lib.splitK]
 | succ k ih =>
  intro s;unfold Lib.splitK;split
  ·simp
  ·have:=ih (s.drop ((Lib.index s sep).toNat + sep.length))
   simp only [List.length_cons];omega
theorem numberOf_any (s:ByteArray) (w:World) (hs:s.size <= 1000) (m:Nb) (hm:prN s.data.toList = some m) :
  Calls Tryz.prog 178 #[.string s] w fun e w'=>e = .returned (.agg #[.int .i64 m.p,.int .i64 m.s,.int .i64 m.mi,.int .i64 m.xi,.int .i64 m.mf,.int .i64 m.xf]) /\ Q w w':=by
 have hC:=fun w=>Sp.cut_any s 46 w (by omega);unfold prN at hm;obtain ⟨K,hK⟩:∃ K,K = Lib.cut s.data.toList [46]:=⟨_,rfl⟩;rw [<- hK] at hC hm;have hKl:K.1.length <= 1000 /\ K.2.1.length <= 1000:=by
  have hsl:=size_list s;rw [hK];unfold Lib.cut;split <;> simp <;> omega
 obtain ⟨k1,k2,k3⟩:=K;simp only at hC hm hKl;obtain ⟨hk1,hk2⟩:=hKl;have hS:=fun w=>Sp.split_any ⟨k1.toArray⟩ 44 w (by simp [ByteArray.size];omega);obtain ⟨xs,hxs⟩:∃ xs,xs = Lib.splitB ⟨#[44]⟩ 0 (Lib.countB ⟨k1.toArray⟩ ⟨#[44]⟩) ⟨k1.toArray⟩:=⟨_,rfl⟩;have hgs:xs.map (·.data.toList) = Lib.split k1 [44]:=by rw [hxs,Lib.splitB_data];rfl
 have hgl:(Lib.split k1 [44]).flatten.length <= 1000:=Nat.le_trans (split_len _ _ _) hk1;have hgn:(Lib.split k1 [44]).length <= 1001:=by
  have h1:=splitK_num [44] (Lib.count k1 [44]) k1;have h2:=Lib.countB_le ⟨#[44]⟩ (Nat.le_refl 1) _ ⟨k1.toArray⟩ (Nat.le_refl _);have h3:Lib.count k1 [44] <= 1000:=Nat.le_trans h2 (by simp [ByteArray.size];omega);exact Nat.le_trans h1 (by omega)
 rw [<- hxs] at hS;clear hxs hK;generalize Lib.split k1 [44] = gs at *;have hcat:cat xs = gs.flatten:=by rw [<- hgs,List.flatten_eq_flatMap,List.flatMap_map];rfl
 have hlen:xs.length = gs.length:=by rw [<- hgs,List.length_map]
 have hX:=fun k hk=>extr_list (k:=k) hgs hk;unfold prG at hm;split at hm
 ·cases hm
 rename_i hno
 split at hm
 ·cases hm
 rename_i hord
 split at hm
 ·cases hm
 rename_i hpt
 have hno':decide (0 <= Sp.plc ByteArray.empty xs 0) = false:=by
  rw [decide_eq_false_iff_not,Sp.plc_neg];intro h;apply hno;rw [<- hgs];exact List.mem_map.2 ⟨_,h,rfl⟩
 have hord:ordL gs.flatten 35 48 = true /\ ordL k2 48 35 = true:=by
  simp only [Bool.not_eq_false,Bool.and_eq_true] at hord;exact hord
 have hpt:k3 = !k2.isEmpty:=by cases k3 <;> cases hke:k2.isEmpty <;> simp_all
 have hm:=Option.some.inj hm;have HA:=fun v w hv=>Sp.has_any v xs ByteArray.empty w hv (by omega);rw [hno'] at HA;have HJ:=fun v w hv=>sjoin_any v xs w hv (by omega) (by rw [hcat];omega);rw [hcat] at HJ;have hz1:(⟨gs.flatten.toArray⟩:ByteArray).size = gs.flatten.length:=by simp only [ByteArray.size,List.size_toArray]
 have O1:=fun w=>ordered_any ⟨gs.flatten.toArray⟩ 35 48 (by decide) (by decide) w (by rw [hz1];omega);have O2:=fun w=>ordered_any ⟨k2.toArray⟩ 48 35 (by decide) (by decide) w (by simp [ByteArray.size];omega);have C1:=fun w=>Sp.count_any ⟨gs.flatten.toArray⟩ 48 w;have C2:=fun w=>Sp.count_any ⟨k2.toArray⟩ 48 w;rw [show (⟨gs.flatten.toArray⟩:ByteArray).data.toList = gs.flatten by simp] at O1 C1;rw [show (⟨k2.toArray⟩:ByteArray).data.toList = k2 by simp] at O2 C2;rw [hord.1] at O1;rw [hord.2] at O2;have hz2:(⟨k2.toArray⟩:ByteArray).size = k2.length:=by simp [ByteArray.size]
 have he2:(⟨k2.toArray⟩:ByteArray).toList.isEmpty = k2.isEmpty:=by rw [ByteArray.toList_eq]
 rw [hpt] at hC;obtain ⟨em,hem⟩:∃ em,em = k2.isEmpty:=⟨_,rfl⟩;rw [<- hem] at hC he2;obtain ⟨l1,hl1⟩:∃ l1,l1 = gs.flatten.length:=⟨_,rfl⟩;obtain ⟨l2,hl2⟩:∃ l2,l2 = k2.length:=⟨_,rfl⟩;obtain ⟨c1,hc1⟩:∃ c1,c1 = Lib.countByte gs.flatten 48:=⟨_,rfl⟩;obtain ⟨c2,hc2⟩:∃ c2,c2 = Lib.countByte k2 48:=⟨_,rfl⟩;rw [<- hl1] at hz1 hm hgl;rw [<- hl2] at hz2 hm;rw [<- hc1] at C1 hm;rw [<- hc2] at C2 hm;obtain ⟨n,hn⟩:∃ n,n = gs.length:=⟨_,rfl⟩;rw [<- hn] at hlen hgn hm hX;generalize gs.flatten.toArray = G at *;generalize (⟨G⟩:ByteArray) = GB at *;generalize (⟨k2.toArray⟩:ByteArray) = FB at *;generalize (⟨k1.toArray⟩:ByteArray) = WB at *;have H1:=Hd hC;have H2:=Hd hS;have H3:=Hd HA;have H4:=Hd HJ;have H5:=Hd O1;have H6:=Hd O2;have H7:=Hd C1;have H8:=Hd C2;have HX:=Hd hX;have HM:=Hd hm;have HLN:=Hd hlen;clear hC hS HA HJ O1 O2 C1 C2 hX hm hlen hno hno' hord hpt hcat hgs hl1 hl2 hc1 hc2 hn hem;go_enter Tryz.func178,Tryz.ntmps178
 go_wp2_with fail
 refine (H1.out _).mono ?_;rintro e w1 ⟨rfl,hq1⟩;go_wp2_with fail
 refine (H2.out _).mono ?_;rintro e w2 ⟨v,rfl,hv,hq2⟩;have HV2:=Hd hv;obtain ⟨a,cp,rfl,hcp1,hcp2⟩:=hv.form0 HLN.out;clear hv;go_wp2_with fail
 refine (H3.out _ _ HV2.out).mono ?_;rintro e w3 ⟨rfl,rfl⟩;go_wp2_with fail
 refine (need_yes _).mono ?_;rintro e w3 ⟨rfl,rfl⟩;go_wp2_with fail
 refine (H4.out _ _ HV2.out).mono ?_;rintro e w3 ⟨rfl,hq3⟩;go_wp2_with fail
 refine (H5.out _).mono ?_;rintro e w4 ⟨rfl,hq4⟩;go_wp2_with fail
 refine (H6.out _).mono ?_;rintro e w5 ⟨rfl,hq5⟩;go_wp2_with fail
 refine (need_yes _).mono ?_;rintro e w5 ⟨rfl,rfl⟩;go_wp2_with fail
 refine (need_yes _).mono ?_;rintro e w5 ⟨rfl,rfl⟩;go_wp2_with fail
 refine (H7.out _).mono ?_;rintro e w6 ⟨rfl,rfl⟩;go_wp2_with fail
 refine (H8.out _).mono ?_;rintro e w6 ⟨rfl,rfl⟩;have HQ5:=Hd ((((((Q.refl w).alloc (.cells #[.int .i64 0,.int .i64 0,.int .i64 0,.int .i64 0,.int .i64 0,.int .i64 0] 184)).trans hq1).trans hq2).trans (hq3.trans (hq4.trans hq5))));have HB5:=Hd (Bk.q (Bk.new w 184 [.int .i64 0,.int .i64 0,.int .i64 0,.int .i64 0,.int .i64 0,.int .i64 0]) (hq1.trans (hq2.trans (hq3.trans (hq4.trans hq5)))));have HV5:=Hd (HV2.out.q (hq3.trans (hq4.trans hq5)));clear hq1 hq2 hq3 hq4 hq5;obtain ⟨z,hz⟩:∃ z,z = w5.alloc (.cells #[.int .i64 0,.int .i64 0,.int .i64 c1,.int .i64 l1,.int .i64 c2,.int .i64 l2] 184):=⟨_,rfl⟩;have HQz:=Hd (show Q w z by rw [hz];exact HQ5.out.alloc _);have HBz:=Hd (show Bk z w.heap.size 184 [.int .i64 0,.int .i64 0,.int .i64 0,.int .i64 0,.int .i64 0,.int .i64 0] by rw [hz];exact HB5.out.q ((Q.refl w5).alloc _));have HGz:=Hd (show Bk z w5.heap.size 184 [.int .i64 0,.int .i64 0,.int .i64 c1,.int .i64 l1,.int .i64 c2,.int .i64 l2] by rw [hz];exact Bk.new w5 _ _);have HVz:=Hd (show SLst z (.slice a n cp) xs by rw [hz];exact HV5.out.q ((Q.refl w5).alloc _));have hBG:w.heap.size < w5.heap.size:=HB5.out.lt;have HVc:=Hd (show ∀ k x,xs[k]? = some x -> ∃ g off,a = some ⟨g,off,none⟩ /\ g < w5.heap.size /\ z.cell? ⟨g,off + k,none⟩ = some (.string x) from fun k x hk=>by
  obtain ⟨g,off,cap,hvv,hg,_,_,d⟩:=HV5.out.cellOf HLN.out hk;cases hvv;refine ⟨g,off,rfl,hg,?_⟩;rw [hz];exact (World.cell?_of_block (w:=w5) (((Q.refl w5).alloc _).block hg)).trans d)
 have hGz:w5.heap.size < z.heap.size:=HGz.out.lt;have hGw:w.heap.size <= w5.heap.size:=by omega
 go_upto_region 8 with fail
 rw [<- hz];clear hz;obtain ⟨G,hG⟩:∃ G,G = w5.heap.size:=⟨_,rfl⟩;rw [<- hG] at HGz hBG hGw HVc hGz |-;have HBw:=Hd (show w.heap.size <= w.heap.size from Nat.le_refl _);have HGw:=Hd hGw;clear hG hGw HB5 HV5 HQ5;have HBw:Hid (w.heap.size <= w.heap.size):=HBw;obtain ⟨B,hB⟩:∃ B,B = w.heap.size:=⟨_,rfl⟩;have HBw:Hid (w.heap.size <= B):=Hd (by omega);rw [<- hB] at HBz hBG |-;clear hB;have hne1:¬ B = G:=by omega
 have hne2:¬ G = B:=by omega
 by_cases h1:1 < n
 ·have h1i:(1:Int) < (n:Int):=by omega
  obtain ⟨y,hy,hyz⟩:=HX.out (n - 1) (by omega);obtain ⟨g,off,rfl,hg,d1⟩:=HVc.out _ _ hy;have HY:=Hd hyz;have hn1:(n:Int) - 1 = ((n - 1:Nat):Int):=by omega
  obtain ⟨n1,hn1'⟩:∃ n1,n1 = n - 1:=⟨_,rfl⟩;rw [<- hn1'] at d1 hn1;have HN1:=Hd hn1';have hn1l:n1 < n:=by omega
  have hn1li:(n1:Int) < (n:Int):=by omega
  clear hyz hn1' hy;have HB1:=Hd (((HBz.out.past (g:=G) (i:=0) hne2 (.int .i64 y.size)).past (g:=G) (i:=1) hne2 (.int .i64 y.size)));have HG1:=Hd ((HGz.out.set 0 (.int .i64 y.size)).set 1 (.int .i64 y.size));have HQ1:=Hd (Q.setCell (Q.setCell HQz.out (ad:=⟨G,0,none⟩) HGw.out (.int .i64 y.size)) (ad:=⟨G,1,none⟩) HGw.out (.int .i64 y.size));have HV1:=Hd (fun k (y2:ByteArray) (hk:xs[k]? = some y2)=>(by
   obtain ⟨g',off',he,hg',d⟩:=HVc.out _ _ hk;cases he;exact cell_past (cell_past d (by omega) (by omega) (.int .i64 y.size)) (by rw [World.size_setCell];omega) (by omega) (.int .i64 y.size):((z.setCell ⟨G,0,none⟩ (.int .i64 y.size)).setCell ⟨G,1,none⟩ (.int .i64 y.size)).cell? ⟨g,off + k,none⟩ = some (.string y2)))
  obtain ⟨x,hx⟩:∃ x,x = (z.setCell ⟨G,0,none⟩ (.int .i64 y.size)).setCell ⟨G,1,none⟩ (.int .i64 y.size):=⟨_,rfl⟩;rw [<- hx] at HB1 HG1 HQ1 HV1;have b0:=HGz.out.cell 0 rfl;have b1:=HGz.out.cell 1 rfl;have f0:=HGz.out.free 0;have f1:=HGz.out.free 1;go_upto_region 12 with fail
  rw [<- hx];clear hx b0 b1 f0 f1 d1 HBz HGz HQz HVz;by_cases h2:2 < n
  ·have h2i:(2:Int) < (n:Int):=by omega
   obtain ⟨y2,hy2,hyz2⟩:=HX.out (n - 2) (by omega);have d2:=HV1.out _ _ hy2;have HY2:=Hd hyz2;have hn2:(n:Int) - 2 = ((n - 2:Nat):Int):=by omega
   obtain ⟨n2,hn2'⟩:∃ n2,n2 = n - 2:=⟨_,rfl⟩;rw [<- hn2'] at d2 hn2;have HN2:=Hd hn2';have hn2l:n2 < n:=by omega
   have hn2li:(n2:Int) < (n:Int):=by omega
   clear hyz2 hn2' hy2;have HB2:=Hd (HB1.out.past (g:=G) (i:=1) hne2 (.int .i64 y2.size));have HG2:=Hd (HG1.out.set 1 (.int .i64 y2.size));have HQ2:=Hd (Q.setCell HQ1.out (ad:=⟨G,1,none⟩) HGw.out (.int .i64 y2.size));obtain ⟨x2,hx2⟩:∃ x2,x2 = x.setCell ⟨G,1,none⟩ (.int .i64 y2.size):=⟨_,rfl⟩;rw [<- hx2] at HB2 HG2 HQ2;have b1:=HG1.out.cell 1 rfl;have f1:=HG1.out.free 1;go_upto_region 14 with fail
   rw [<- hx2];clear hx2 b1 f1 d2 HB1 HG1 HQ1 HV1;have HB:=HB2;have HG:=HG2;have HQ:=HQ2;have b0:=HB.out.cell 0 rfl;have f0:=HB.out.free 0;have b1:=HB.out.cell 1 rfl;have f1:=HB.out.free 1;have b2:=HB.out.cell 2 rfl;have f2:=HB.out.free 2;have b3:=HB.out.cell 3 rfl;have f3:=HB.out.free 3;have b4:=HB.out.cell 4 rfl;have f4:=HB.out.free 4;have b5:=HB.out.cell 5 rfl;have f5:=HB.out.free 5;have d0:=HG.out.cell 0 rfl;have e0:=HG.out.free 0;have d1:=HG.out.cell 1 rfl;have e1:=HG.out.free 1;have d2:=HG.out.cell 2 rfl;have e2:=HG.out.free 2;have d3:=HG.out.cell 3 rfl;have e3:=HG.out.free 3;have d4:=HG.out.cell 4 rfl;have e4:=HG.out.free 4;have d5:=HG.out.cell 5 rfl;have e5:=HG.out.free 5;have HF:=Hd ((((((HB.out.set 0 (.int .i64 y.size)).set 1 (.int .i64 y2.size)).set 2 (.int .i64 c1)).set 3 (.int .i64 l1)).set 4 (.int .i64 c2)).set 5 (.int .i64 l2));have HQF:=Hd (Q.setCell (Q.setCell (Q.setCell (Q.setCell (Q.setCell (Q.setCell HQ.out (ad:=⟨B,0,none⟩) HBw.out (.int .i64 y.size)) (ad:=⟨B,1,none⟩) HBw.out (.int .i64 y2.size)) (ad:=⟨B,2,none⟩) HBw.out (.int .i64 c1)) (ad:=⟨B,3,none⟩) HBw.out (.int .i64 l1)) (ad:=⟨B,4,none⟩) HBw.out (.int .i64 c2)) (ad:=⟨B,5,none⟩) HBw.out (.int .i64 l2));go_wp2_with fail
   refine ret_bk rfl Tryz.underlying184 (by exact infoN) rfl HF.out rfl ⟨?_,HQF.out⟩;rw [<- HM.out];simp only [if_pos h1,if_pos h2,<- HY.out,<- HY2.out];rfl
  ·have h2i:¬ (2:Int) < (n:Int):=by omega
   have HB:=HB1;have HG:=HG1;have HQ:=HQ1;have b0:=HB.out.cell 0 rfl;have f0:=HB.out.free 0;have b1:=HB.out.cell 1 rfl;have f1:=HB.out.free 1;have b2:=HB.out.cell 2 rfl;have f2:=HB.out.free 2;have b3:=HB.out.cell 3 rfl;have f3:=HB.out.free 3;have b4:=HB.out.cell 4 rfl;have f4:=HB.out.free 4;have b5:=HB.out.cell 5 rfl;have f5:=HB.out.free 5;have d0:=HG.out.cell 0 rfl;have e0:=HG.out.free 0;have d1:=HG.out.cell 1 rfl;have e1:=HG.out.free 1;have d2:=HG.out.cell 2 rfl;have e2:=HG.out.free 2;have d3:=HG.out.cell 3 rfl;have e3:=HG.out.free 3;have d4:=HG.out.cell 4 rfl;have e4:=HG.out.free 4;have d5:=HG.out.cell 5 rfl;have e5:=HG.out.free 5;have HF:=Hd ((((((HB.out.set 0 (.int .i64 y.size)).set 1 (.int .i64 y.size)).set 2 (.int .i64 c1)).set 3 (.int .i64 l1)).set 4 (.int .i64 c2)).set 5 (.int .i64 l2));have HQF:=Hd (Q.setCell (Q.setCell (Q.setCell (Q.setCell (Q.setCell (Q.setCell HQ.out (ad:=⟨B,0,none⟩) HBw.out (.int .i64 y.size)) (ad:=⟨B,1,none⟩) HBw.out (.int .i64 y.size)) (ad:=⟨B,2,none⟩) HBw.out (.int .i64 c1)) (ad:=⟨B,3,none⟩) HBw.out (.int .i64 l1)) (ad:=⟨B,4,none⟩) HBw.out (.int .i64 c2)) (ad:=⟨B,5,none⟩) HBw.out (.int .i64 l2));go_wp2_with fail
   refine ret_bk rfl Tryz.underlying184 (by exact infoN) rfl HF.out rfl ⟨?_,HQF.out⟩;rw [<- HM.out];simp only [if_pos h1,if_neg h2,<- HY.out];rfl
 ·have h1i:¬ (1:Int) < (n:Int):=by omega
  have h2:¬ 2 < n:=by omega
  have HB:=HBz;have HG:=HGz;have HQ:=HQz;have b0:=HB.out.cell 0 rfl;have f0:=HB.out.free 0;have b1:=HB.out.cell 1 rfl;have f1:=HB.out.free 1;have b2:=HB.out.cell 2 rfl;have f2:=HB.out.free 2;have b3:=HB.out.cell 3 rfl;have f3:=HB.out.free 3;have b4:=HB.out.cell 4 rfl;have f4:=HB.out.free 4;have b5:=HB.out.cell 5 rfl;have f5:=HB.out.free 5;have d0:=HG.out.cell 0 rfl;have e0:=HG.out.free 0;have d1:=HG.out.cell 1 rfl;have e1:=HG.out.free 1;have d2:=HG.out.cell 2 rfl;have e2:=HG.out.free 2;have d3:=HG.out.cell 3 rfl;have e3:=HG.out.free 3;have d4:=HG.out.cell 4 rfl;have e4:=HG.out.free 4;have d5:=HG.out.cell 5 rfl;have e5:=HG.out.free 5;have HF:=Hd ((((((HB.out.set 0 (.int .i64 0)).set 1 (.int .i64 0)).set 2 (.int .i64 c1)).set 3 (.int .i64 l1)).set 4 (.int .i64 c2)).set 5 (.int .i64 l2));have HQF:=Hd (Q.setCell (Q.setCell (Q.setCell (Q.setCell (Q.setCell (Q.setCell HQ.out (ad:=⟨B,0,none⟩) HBw.out (.int .i64 0)) (ad:=⟨B,1,none⟩) HBw.out (.int .i64 0)) (ad:=⟨B,2,none⟩) HBw.out (.int .i64 c1)) (ad:=⟨B,3,none⟩) HBw.out (.int .i64 l1)) (ad:=⟨B,4,none⟩) HBw.out (.int .i64 c2)) (ad:=⟨B,5,none⟩) HBw.out (.int .i64 l2));go_wp2_with fail
  refine ret_bk rfl Tryz.underlying184 (by exact infoN) rfl HF.out rfl ⟨?_,HQF.out⟩;rw [<- HM.out];simp only [if_neg h1,if_neg h2];rfl
end Pg
end
section
open Go.RowKit
namespace Ep
open Er
def sg (g:Bool) (M:Nat):Int:=if M = 0 then 0 else if g = true then -1 else 1
end Ep
end
end Go.Proofs.YteggfkbnnmpcjaaGreatDoor
