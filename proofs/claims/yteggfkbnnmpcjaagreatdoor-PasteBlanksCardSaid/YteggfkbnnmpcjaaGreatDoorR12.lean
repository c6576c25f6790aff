/- What system's Names, Digit, Value, Shape, Read and Convert answer. (and more) -/
import Derived.Test.YteggfkbnnmpcjaaGreatDoorR11
import Derived.Test.YteggfkbnnmpcjaaGreatDoorR08
import Derived.Test.YteggfkbnnmpcjaaGreatDoorR06
set_option linter.all false
set_option maxRecDepth 100000
set_option maxHeartbeats 8000000
namespace Go.Proofs.YteggfkbnnmpcjaaGreatDoor
section
open Go.RowKit Go.Sort Go.Maps
namespace Sy
open Sm Um
theorem digit_any (x:ByteArray) (d:Int) (w:World) (hx:x.size <= maxLen) :
  Calls Tryz.prog 91 #[.string x,.int .i64 d] w fun e w'=>e = .returned (.tuple #[.string (dgS (nz x.data.toList) d),.int .i64 (dgE (nz x.data.toList) d)]) /\ Q w w':=by
 have hb:=nz_bd x.data.toList;by_cases hz:nz x.data.toList = -1
 ·have HS:Hid (dgS (nz x.data.toList) d = ⟨#[]⟩):=Hd (by unfold dgS;rw [if_pos hz])
  have HE:Hid (dgE (nz x.data.toList) d = 7):=Hd (by unfold dgE;rw [if_pos hz]);have hc:=fun w=>zero_none x w hx hz;clear hz hb;go_enter Tryz.func91,Tryz.ntmps91
  go_wp2_with (go_at_call 146;refine (hc _).mono ?_;rintro e w1 ⟨rfl,hq1⟩)
  go_ret2
  rw [HS.out,HE.out];exact ⟨rfl,hq1⟩
 ·have hc:=fun w=>zero_some x w hx hz
  have hb2:48 <= nz x.data.toList /\ nz x.data.toList <= 120812:=by omega
  clear hb;generalize nz x.data.toList = z at *;by_cases h0:0 <= d
  ·by_cases h9:d <= 9
   ·have HS:Hid (dgS z d = Um.encB (z + d)):=Hd (by unfold dgS;rw [if_neg hz,if_pos ⟨h0,h9⟩])
    have HE:Hid (dgE z d = 0):=Hd (by unfold dgE;rw [if_neg hz,if_pos ⟨h0,h9⟩]);have h10:d < 10:=by omega
    clear hz h9;go_enter Tryz.func91,Tryz.ntmps91
    go_wp2_with (first | (go_at_call 146;refine (hc _).mono ?_;rintro e w1 ⟨rfl,hq1⟩) | (go_at_call 132;refine (encode_any _ _).mono ?_;rintro e w' ⟨rfl,rfl⟩))
    go_ret2
    rw [HS.out,HE.out];exact ⟨rfl,hq1⟩
   ·have HS:Hid (dgS z d = ⟨#[]⟩):=Hd (by unfold dgS;rw [if_neg hz,if_neg (by omega)])
    have HE:Hid (dgE z d = 3):=Hd (by unfold dgE;rw [if_neg hz,if_neg (by omega)]);have h10:10 <= d:=by omega
    clear hz h9;go_enter Tryz.func91,Tryz.ntmps91
    go_wp2_with (go_at_call 146;refine (hc _).mono ?_;rintro e w1 ⟨rfl,hq1⟩)
    go_ret2
    rw [HS.out,HE.out];exact ⟨rfl,hq1⟩
  ·have HS:Hid (dgS z d = ⟨#[]⟩):=Hd (by unfold dgS;rw [if_neg hz,if_neg (by omega)])
   have HE:Hid (dgE z d = 3):=Hd (by unfold dgE;rw [if_neg hz,if_neg (by omega)]);have h10:d < 0:=by omega
   clear hz h0;go_enter Tryz.func91,Tryz.ntmps91
   go_wp2_with (go_at_call 146;refine (hc _).mono ?_;rintro e w1 ⟨rfl,hq1⟩)
   go_ret2
   rw [HS.out,HE.out];exact ⟨rfl,hq1⟩
end Sy
end
section
open Go.RowKit
def Ap (w:World) (B:Nat) (v:Value) (zs:List Int):Prop:=Own w B v zs \/ (Lst w v zs /\ ∃ a,v = .slice a zs.length zs.length)
theorem Ap.lst {w:World} {B:Nat} {v:Value} {zs:List Int} (h:Ap w B v zs):Lst w v zs:=h.elim (fun h=>h.lst) (fun h=>h.1)
theorem Ap.q {w w':World} {B:Nat} {v:Value} {zs:List Int} (h:Ap w B v zs) (hq:Q w w'):Ap w' B v zs:=h.elim (fun h=>.inl (h.q hq)) (fun h=>.inr ⟨h.1.q hq,h.2⟩)
namespace Ts
end Ts
namespace Tp
end Tp
end
section
namespace Lm
abbrev By:=List UInt8
def bs (l:By):ByteArray:=⟨l.toArray⟩
theorem bs_list (l:By):(bs l).data.toList = l:=by unfold bs;simp
theorem bs_size (l:By):(bs l).size = l.length:=by unfold bs;simp [ByteArray.size]
structure Rec where
 nam:By
 pat:By
 sys:By
 dec:By
 grp:By
 min:By
 per:By
 cur:By
def wordB (l:By):Bool:=decide (l.length <= 16) && (Um.okL l && Cm.plainB (Um.allL l))
def symB (l:By):Bool:=wordB l && Gm.oneB l
def ptx (r:Rec) (x:Int × By):By:=if x.1 = 0 then x.2 else if x.1 = 1 then r.cur else if x.1 = 2 then r.per else []
def atx (r:Rec) (A:List (Int × By)):By:=A.flatMap (ptx r)
def affs (X:Pt.Pat):List (List (Int × By)):=[X.pre,X.suf,X.npre,X.nsuf]
def cnt (k:Int) (A:List (Int × By)):Nat:=A.countP fun x=>x.1 == k
def clus (r:Rec) (X:Pt.Pat):List ByteArray:=(affs X).flatMap fun A=>Gm.pcs (bs (atx r A))
def dgt (r:Rec) (d:Nat):ByteArray:=Sm.dgS (Sm.nz r.sys) d
def syms (r:Rec):List ByteArray:=[dgt r 0,dgt r 1,dgt r 2,dgt r 3,dgt r 4,dgt r 5,dgt r 6,dgt r 7,dgt r 8,dgt r 9,bs r.dec,bs r.grp,bs r.min]
def plc (x:ByteArray):List ByteArray -> Nat -> Int
 | [],_=>-1
 | y :: r,k=>if x = y then (k:Int) else plc x r (k + 1)
theorem plc_neg {x:ByteArray} (xs:List ByteArray):∀ k,(0:Int) <= plc x xs k ↔ x ∈ xs:=by
 induction xs with
 | nil=>intro k;simp [plc]
 | cons y r ih =>
  intro k;unfold plc;by_cases h:x = y
  ·rw [if_pos h];simp [h]
  ·rw [if_neg h,ih];simp [h]
theorem plc_none {x:ByteArray} (xs:List ByteArray):∀ k,x ∉ xs -> plc x xs k = -1:=by
 induction xs with
 | nil=>intro k h;rfl
 | cons y r ih =>
  intro k h;unfold plc;rw [if_neg (fun e=>h (by rw [e];exact List.mem_cons_self)),ih _ (fun e=>h (List.mem_cons_of_mem _ e))]
theorem plc_nodup (xs:List ByteArray):∀ k i (x:ByteArray),xs.Nodup -> xs[i]? = some x -> plc x xs k = ((k + i:Nat):Int):=by
 induction xs with
 | nil=>intro k i x _ h;simp at h
 | cons y r ih =>
  intro k i x hn h;rw [List.nodup_cons] at hn;unfold plc;cases i with
  | zero =>
   simp at h;rw [if_pos h.symm];rfl
  | succ i =>
   rw [List.getElem?_cons_succ] at h;have hm:x ∈ r:=List.mem_of_getElem? h;rw [if_neg (fun e=>hn.1 (by rw [<- e];exact hm)),ih _ i x hn.2 h];congr 1;omega
def sgn (r:Rec) (x:ByteArray):Int:=if x.size = 0 then -1 else plc x (syms r) 0
structure Ok (r:Rec) (X:Pt.Pat):Prop where
 nam:∀ b ∈ r.nam,(97 <= b.toNat /\ b.toNat <= 122) \/ (65 <= b.toNat /\ b.toNat <= 90) \/ b.toNat = 45
 nam1:1 <= r.nam.length /\ r.nam.length <= 16
 sg:cnt 3 X.pre = 0 /\ cnt 3 X.suf = 0 /\ cnt 3 X.npre + cnt 3 X.nsuf = 1
 sys:0 <= Sm.nz r.sys
 sysl:r.sys.length <= 16
 dec:symB r.dec = true
 min:symB r.min = true
 pr:0 <= X.pr
 grp1:0 < X.pr -> symB r.grp = true
 grp0:¬ 0 < X.pr -> r.grp = []
 per:wordB r.per = true \/ (r.per = [] /\ ∀ A ∈ affs X,cnt 2 A = 0)
 cur:wordB r.cur = true \/ (r.cur = [] /\ ∀ A ∈ affs X,cnt 1 A = 0)
 aff:∀ A ∈ affs X,A.length <= 10 /\ ∀ x ∈ A,(0 <= x.1 /\ x.1 <= 3) /\ x.2.length <= 10 /\ (x.1 = 0 -> Cm.plainB (Um.allL x.2) = true) /\ (x.1 ≠ 0 -> x.2 = [])
 len:∀ A ∈ affs X,(atx r A).length <= 64
 dis:(syms r).Nodup
 ne:∀ i x,(syms r)[i]? = some x -> i ≠ 11 -> 0 < x.size
 cl:∀ c ∈ clus r X,c ∉ syms r
def notin (x:ByteArray) (l:List ByteArray):Bool:=l.all fun y=>decide (y ≠ x)
def isin (x:ByteArray) (l:List ByteArray):Bool:=l.any fun y=>decide (y = x)
theorem of_notin {x:ByteArray} {l:List ByteArray} (h:notin x l = true):x ∉ l:=fun k=>by
 have:=List.all_eq_true.1 h x k;simp at this
theorem of_isin {x:ByteArray} {l:List ByteArray} (h:isin x l = true):x ∈ l:=by
 obtain ⟨y,hy,he⟩:=List.any_eq_true.1 h;exact of_decide_eq_true he ▸ hy
/-! ### the records made of numbers -/
def patC:List (List Int):=[[35,44,35,35,48,46,48,48],[48,46,35,35],[35,44,35,35,44,35,35,48,46,35,35,35],[164,35,44,35,35,48,46,48,48],[35,44,35,35,48,46,48,48,120,164],[164,120,35,44,35,35,48,46,48,48,59,40,164,120,45,35,41],[35,44,35,35,48,37],[48,46,48,59,48,46,48,45],[35,44,35,35,35,48,46,48,48,121,59,121,35,44,35,35,48,46,48,48,45,121],[35,44,35,35,44,35,48,46,35,59,39,35,39,35,45,39,35,39]]
def patB:List By:=[[35,44,35,35,48,46,48,48],[48,46,35,35],[35,44,35,35,44,35,35,48,46,35,35,35],[194,164,35,44,35,35,48,46,48,48],[35,44,35,35,48,46,48,48,120,194,164],[194,164,120,35,44,35,35,48,46,48,48,59,40,194,164,120,45,35,41],[35,44,35,35,48,37],[48,46,48,59,48,46,48,45],[35,44,35,35,35,48,46,48,48,121,59,121,35,44,35,35,48,46,48,48,45,121],[35,44,35,35,44,35,48,46,35,59,39,35,39,35,45,39,35,39]]
def patX:List Pt.Pat:=[⟨[],[],[(3,[])],[],3,3,1,2,2⟩,
 ⟨[],[],[(3,[])],[],0,0,1,0,2⟩,
 ⟨[],[],[(3,[])],[],3,2,1,0,3⟩,
 ⟨[(1,[])],[],[(3,[]),(1,[])],[],3,3,1,2,2⟩,
 ⟨[],[(0,[120]),(1,[])],[(3,[])],[(0,[120]),(1,[])],3,3,1,2,2⟩,
 ⟨[(1,[]),(0,[120])],[],[(0,[40]),(1,[]),(0,[120]),(3,[])],[(0,[41])],3,3,1,2,2⟩,
 ⟨[],[(2,[])],[(3,[])],[(2,[])],3,3,1,0,0⟩,
 ⟨[],[],[],[(3,[])],0,0,1,1,1⟩,
 ⟨[],[(0,[121])],[(0,[121])],[(3,[]),(0,[121])],4,4,1,2,2⟩,
 ⟨[],[],[(0,[35])],[(3,[]),(0,[35])],2,2,1,0,1⟩]
def decL:List By:=[[46],[44],[217,171],[101,204,129]]
def minL:List By:=[[45],[226,136,146],[226,128,144],[45,204,129]]
def perL:List By:=[[37],[217,170]]
def curL:List By:=[[36],[226,130,172],[67,72,70],[107,204,129,114]]
def grpL:List By:=[[39],[194,160],[226,128,175],[95],[46],[44]]
def eL:List ByteArray:=[⟨#[36]⟩,⟨#[226,130,172]⟩,⟨#[67]⟩,⟨#[72]⟩,⟨#[70]⟩,⟨#[107,204,129]⟩,⟨#[114]⟩,⟨#[120]⟩,⟨#[40]⟩,⟨#[41]⟩,⟨#[37]⟩,⟨#[217,170]⟩,⟨#[121]⟩,⟨#[35]⟩]
def pX (p:Nat):Pt.Pat:=patX.getD p Pt.pat0
def grpAt (q d:Nat):By:=if grpL.getD q [] = decL.getD d [] then [32] else grpL.getD q []
def mk (s p d m u c q:Nat):Rec:=⟨[120,120],patB.getD p [],Sm.nmL.getD s [],decL.getD d [],if 0 < (pX p).pr then grpAt q d else [],minL.getD m [],perL.getD u [],curL.getD c []⟩
theorem f_pat:∀ p,p < 10 -> Um.joinL (patC.getD p []) = patB.getD p [] /\ Pt.parseC (patC.getD p []) = (pX p,0) /\ (patC.getD p []).all (fun c=>Um.vld c) = true:=by decide +kernel
theorem f_aff:∀ p,p < 10 -> (affs (pX p)).all (fun A=>decide (A.length <= 10) && A.all (fun x=>decide (0 <= x.1 /\ x.1 <= 3) && (decide (x.2.length <= 10) && ((x.1 != 0 || Cm.plainB (Um.allL x.2)) && (x.1 == 0 || x.2 == []))))) = true:=by decide +kernel
theorem f_sg:∀ p,p < 10 -> cnt 3 (pX p).pre = 0 /\ cnt 3 (pX p).suf = 0 /\ cnt 3 (pX p).npre + cnt 3 (pX p).nsuf = 1 /\ 0 <= (pX p).pr:=by decide +kernel
theorem f_sys:∀ s,s < 20 -> 0 <= Sm.nz (Sm.nmL.getD s []) /\ (Sm.nmL.getD s []).length <= 16:=by decide +kernel
theorem f_dec:∀ d,d < 4 -> symB (decL.getD d []) = true:=by decide +kernel
theorem f_min:∀ d,d < 4 -> symB (minL.getD d []) = true:=by decide +kernel
theorem f_grp:∀ q,q < 6 -> ∀ d,d < 4 -> symB (grpAt q d) = true:=by decide +kernel
theorem f_per:∀ u,u < 2 -> wordB (perL.getD u []) = true:=by decide +kernel
theorem f_cur:∀ u,u < 4 -> wordB (curL.getD u []) = true:=by decide +kernel
def atxC (p u c:Nat) (A:List (Int × By)):By:=A.flatMap fun x=>if x.1 = 0 then x.2 else if x.1 = 1 then curL.getD c [] else if x.1 = 2 then perL.getD u [] else []
theorem f_len:∀ p,p < 10 -> ∀ u,u < 2 -> ∀ c,c < 4 -> (affs (pX p)).all (fun A=>decide ((atxC p u c A).length <= 64)) = true:=by decide +kernel
theorem f_clus:∀ p,p < 10 -> ∀ u,u < 2 -> ∀ c,c < 4 -> (affs (pX p)).all (fun A=>(Gm.pcs (bs (atxC p u c A))).all fun x=>isin x eL) = true:=by decide +kernel
def digs (s:Nat):List ByteArray:=(List.range 10).map fun d:Nat=>Sm.dgS (Sm.nz (Sm.nmL.getD s [])) (d:Int)
def others:List ByteArray:=(decL ++ minL ++ grpL ++ [[32]]).map bs
theorem f_eD:∀ s,s < 20 -> eL.all (fun x=>notin x (digs s)) = true:=by decide +kernel
theorem f_eO:eL.all (fun x=>decide (0 < x.size) && notin x others) = true:=by decide +kernel
theorem f_dd:∀ s,s < 20 -> (digs s).Nodup:=by decide +kernel
theorem f_dn:∀ s,s < 20 -> (digs s).all (fun x=>decide (0 < x.size) && notin x others) = true:=by decide +kernel
theorem f_on:others.all (fun x=>decide (0 < x.size)) = true:=by decide +kernel
theorem f_dm:∀ d,d < 4 -> ∀ m,m < 4 -> bs (decL.getD d []) ≠ bs (minL.getD m []):=by decide +kernel
theorem f_dg:∀ d,d < 4 -> ∀ q,q < 6 -> bs (decL.getD d []) ≠ bs (grpAt q d):=by decide +kernel
theorem f_gm:∀ d,d < 4 -> ∀ q,q < 6 -> ∀ m,m < 4 -> bs (grpAt q d) ≠ bs (minL.getD m []):=by decide +kernel
theorem f_othB:(∀ d,d < 4 -> isin (bs (decL.getD d [])) others = true) /\ (∀ m,m < 4 -> isin (bs (minL.getD m [])) others = true) /\ (∀ q,q < 6 -> ∀ d,d < 4 -> isin (bs (grpAt q d)) others = true):=by decide +kernel
theorem f_oth:(∀ d,d < 4 -> bs (decL.getD d []) ∈ others) /\ (∀ m,m < 4 -> bs (minL.getD m []) ∈ others) /\ (∀ q,q < 6 -> ∀ d,d < 4 -> bs (grpAt q d) ∈ others) :=
 ⟨fun d h=>of_isin (f_othB.1 d h),fun d h=>of_isin (f_othB.2.1 d h),fun q h d k=>of_isin (f_othB.2.2 q h d k)⟩
theorem nod3 {D:List ByteArray} {x y z:ByteArray} (hD:D.Nodup) (hx:x ∉ D) (hy:y ∉ D) (hz:z ∉ D) (h1:x ≠ y) (h2:x ≠ z) (h3:y ≠ z):(D ++ [x,y,z]).Nodup:=by
 rw [List.nodup_append];refine ⟨hD,by simp [h1,h2,h3],fun a ha b hb e=>?_⟩;subst e;simp only [List.mem_cons,List.not_mem_nil,or_false] at hb;rcases hb with rfl | rfl | rfl
 ·exact hx ha
 ·exact hy ha
 ·exact hz ha
theorem dig_mem {s:Nat} (hs:s < 20) {x:ByteArray} (h:x ∈ digs s):0 < x.size /\ x ∉ others:=by
 have h1:=List.all_eq_true.1 (f_dn s hs) x h;simp only [Bool.and_eq_true,decide_eq_true_eq] at h1;exact ⟨h1.1,of_notin h1.2⟩
theorem oth_size {x:ByteArray} (h:x ∈ others):0 < x.size:=by
 have h1:=List.all_eq_true.1 f_on x h;simpa using h1
theorem oth_dig {s:Nat} (hs:s < 20) {x:ByteArray} (h:x ∈ others):x ∉ digs s:=fun k=>(dig_mem hs k).2 h
theorem emp_dig {s:Nat} (hs:s < 20):bs [] ∉ digs s:=fun k=>by have:=(dig_mem hs k).1;rw [bs_size] at this;simp at this
theorem e_mem {s:Nat} (hs:s < 20) {x:ByteArray} (h:x ∈ eL):0 < x.size /\ x ∉ others /\ x ∉ digs s:=by
 have h1:=List.all_eq_true.1 f_eO x h;have h2:=List.all_eq_true.1 (f_eD s hs) x h;simp only [Bool.and_eq_true,decide_eq_true_eq] at h1;exact ⟨h1.1,of_notin h1.2,of_notin h2⟩
def sy (s d m:Nat) (g:By):List ByteArray:=digs s ++ [bs (decL.getD d []),bs g,bs (minL.getD m [])]
def IsG (d:Nat) (g:By):Prop:=g = [] \/ ∃ q,q < 6 /\ g = grpAt q d
theorem sy_nodup {s d m:Nat} {g:By} (hs:s < 20) (hd:d < 4) (hm:m < 4) (hg:IsG d g):(sy s d m g).Nodup:=by
 have o1:=f_oth.1 d hd;have o2:=f_oth.2.1 m hm;have z1:=oth_size o1;have z2:=oth_size o2;rcases hg with rfl | ⟨q,hq,rfl⟩
 ·refine nod3 (f_dd s hs) (oth_dig hs o1) (emp_dig hs) (oth_dig hs o2) (fun e=>?_) (f_dm d hd m hm) (fun e=>?_)
  ·rw [e,bs_size] at z1;simp at z1
  ·rw [<- e,bs_size] at z2;simp at z2
 ·have o3:=f_oth.2.2 q hq d hd
  exact nod3 (f_dd s hs) (oth_dig hs o1) (oth_dig hs o3) (oth_dig hs o2) (f_dg d hd q hq) (f_dm d hd m hm) (f_gm d hd q hq m hm)
theorem sy_ne {s d m:Nat} {g:By} (hs:s < 20) (hd:d < 4) (hm:m < 4) (i:Nat) (x:ByteArray) (h:(sy s d m g)[i]? = some x) (h11:i ≠ 11):0 < x.size:=by
 have hl:(digs s).length = 10:=by unfold digs;simp
 unfold sy at h;by_cases hi:i < 10
 ·rw [List.getElem?_append_left (by omega)] at h
  exact (dig_mem hs (List.mem_of_getElem? h)).1
 ·rw [List.getElem?_append_right (by omega),hl] at h
  obtain ⟨j,hj⟩:∃ j,j = i - 10:=⟨_,rfl⟩;rw [<- hj] at h;match j,hj,h with
  | 0,_,h=>simp at h;subst h;exact oth_size (f_oth.1 d hd)
  | 1,hj,_=>omega
  | 2,_,h=>simp at h;subst h;exact oth_size (f_oth.2.1 m hm)
  | k + 3,_,h=>simp at h
theorem sy_e {s d m:Nat} {g:By} (hs:s < 20) (hd:d < 4) (hm:m < 4) (hg:IsG d g) {x:ByteArray} (h:x ∈ eL):x ∉ sy s d m g:=by
 obtain ⟨h1,h2,h3⟩:=e_mem hs h;unfold sy;intro k;rcases List.mem_append.1 k with k | k
 ·exact h3 k
 ·simp only [List.mem_cons,List.not_mem_nil,or_false] at k
  rcases k with rfl | rfl | rfl
  ·exact h2 (f_oth.1 d hd)
  ·rcases hg with rfl | ⟨q,hq,rfl⟩
   ·rw [bs_size] at h1;simp at h1
   ·exact h2 (f_oth.2.2 q hq d hd)
  ·exact h2 (f_oth.2.1 m hm)
theorem aff_of {p:Nat} (hp:p < 10):∀ A ∈ affs (pX p),A.length <= 10 /\ ∀ x ∈ A,(0 <= x.1 /\ x.1 <= 3) /\ x.2.length <= 10 /\ (x.1 = 0 -> Cm.plainB (Um.allL x.2) = true) /\ (x.1 ≠ 0 -> x.2 = []):=by
 intro A hA;have h:=List.all_eq_true.1 (f_aff p hp) A hA;simp only [Bool.and_eq_true,decide_eq_true_eq,List.all_eq_true,Bool.or_eq_true,bne_iff_ne,ne_eq,beq_iff_eq] at h;refine ⟨h.1,fun x hx=>?_⟩;obtain ⟨h1,h2,h3,h4⟩:=h.2 x hx;exact ⟨h1,h2,fun e=>h3.resolve_left (fun n=>n e),fun e=>h4.resolve_left e⟩
theorem mk_isG {s p d m u c q:Nat} (hq:q < 6):IsG d (mk s p d m u c q).grp:=by
 show IsG d (if 0 < (pX p).pr then grpAt q d else [])
 split
 ·exact .inr ⟨q,hq,rfl⟩
 ·exact .inl rfl
theorem mk_ok {s p d m u c q:Nat} (hs:s < 20) (hp:p < 10) (hd:d < 4) (hm:m < 4) (hu:u < 2) (hc:c < 4) (hq:q < 6):Ok (mk s p d m u c q) (pX p) where
 nam:=(by decide:∀ b ∈ ([120,120]:By),(97 <= b.toNat /\ b.toNat <= 122) \/ (65 <= b.toNat /\ b.toNat <= 90) \/ b.toNat = 45)
 nam1:=(by decide:1 <= ([120,120]:By).length /\ ([120,120]:By).length <= 16)
 sg:=⟨(f_sg p hp).1,(f_sg p hp).2.1,(f_sg p hp).2.2.1⟩
 sys:=(f_sys s hs).1
 sysl:=(f_sys s hs).2
 dec:=f_dec d hd
 min:=f_min m hm
 pr:=(f_sg p hp).2.2.2
 grp1:=fun h=>by show symB (if 0 < (pX p).pr then grpAt q d else []) = true;rw [if_pos h];exact f_grp q hq d hd
 grp0:=fun h=>by show (if 0 < (pX p).pr then grpAt q d else []) = [];rw [if_neg h]
 per:=.inl (f_per u hu)
 cur:=.inl (f_cur c hc)
 aff:=aff_of hp
 len:=fun A hA=>by have h:=List.all_eq_true.1 (f_len p hp u hu c hc) A hA;exact of_decide_eq_true h
 dis:=sy_nodup hs hd hm (mk_isG hq)
 ne:=fun i x h h11=>sy_ne hs hd hm i x h h11
 cl:=fun x hx=>by
  refine sy_e hs hd hm (mk_isG hq) ?_;unfold clus at hx;obtain ⟨A,hA,hxA⟩:=List.mem_flatMap.1 hx;exact of_isin (List.all_eq_true.1 (List.all_eq_true.1 (f_clus p hp u hu c hc) A hA) x hxA)
end Lm
end
section
open Go.RowKit
namespace Pg
open Pt Um
abbrev form:List PanicEntry:=[{ v:=.iface 48 (.int .i64 2),recovered:=false }]
abbrev range:List PanicEntry:=[{ v:=.iface 48 (.int .i64 3),recovered:=false }]
theorem need_yes (w:World):Calls Tryz.prog 142 #[.bool true] w fun e w'=>e = .returned (.tuple #[]) /\ w = w':=by
 go_enter Tryz.func142,Tryz.ntmps142
 go_wp2
 go_end0
 exact ⟨rfl,rfl⟩
theorem need_no (w:World):Calls Tryz.prog 142 #[.bool false] w fun e w'=>e = .panicked form /\ w = w':=by
 go_enter Tryz.func142,Tryz.ntmps142
 go_wp2
 exact ⟨rfl,rfl,rfl⟩
theorem meaning_any (c:Int) (w:World):Calls Tryz.prog 174 #[.int .i64 c] w fun e w'=>e = .returned (.int .i64 (kindC c)) /\ w = w':=by
 obtain ⟨K,hK⟩:∃ K,K = kindC c:=⟨_,rfl⟩;rw [<- hK];unfold kindC at hK;have HK:=Hd hK;clear hK;go_enter Tryz.func174,Tryz.ntmps174
 go_wp2
 all_goals
  have hK:=HK.out;go_ret
  first | (simp_all;done) | (simp_all;omega)
structure Nb where
 p:Int
 s:Int
 mi:Int
 xi:Int
 mf:Int
 xf:Int
deriving DecidableEq
@[reducible] def Nb.v (n:Nb):Value:=.agg #[.int .i64 n.p,.int .i64 n.s,.int .i64 n.mi,.int .i64 n.xi,.int .i64 n.mf,.int .i64 n.xf]
theorem keep_ok (p s mi xi mf xf:Int) (w:World) (h1:xi <= 64) (h2:xf <= 64):Calls Tryz.prog 144 #[.agg #[.int .i64 p,.int .i64 s,.int .i64 mi,.int .i64 xi,.int .i64 mf,.int .i64 xf]] w fun e w'=>e = .returned (.tuple #[]) /\ Q w w':=by
 have hm:max xi xf <= 64:=by omega
 generalize hx:max xi xf = x at *;have HX:=Hd hx;go_enter Tryz.func144,Tryz.ntmps144
 go_wp2
 all_goals
  go_end0
  exact ⟨rfl,(Q.refl _).alloc _⟩
theorem keep_bad (p s mi xi mf xf:Int) (w:World) (h:64 < xi \/ 64 < xf):Calls Tryz.prog 144 #[.agg #[.int .i64 p,.int .i64 s,.int .i64 mi,.int .i64 xi,.int .i64 mf,.int .i64 xf]] w fun e w'=>e = .panicked range /\ Q w w':=by
 have hm:64 < max xi xf:=by omega
 generalize hx:max xi xf = x at *;have HX:=Hd hx;clear h;go_enter Tryz.func144,Tryz.ntmps144
 go_wp2
 all_goals exact ⟨rfl,rfl,(Q.refl _).alloc _⟩
theorem notD_any (k c:Int) (w:World):Calls Tryz.prog 172 #[.agg #[.int .i64 k,.int .i64 c]] w fun e w'=>e = .returned (.bool (!isD (k,c))) /\ Q w w':=by
 have HF:Hid ((!isD (k,c)) = (k != 5)):=Hd (by simp [isD,bne]);generalize (!isD (k,c)) = r at *;go_enter Tryz.func172,Tryz.ntmps172
 go_wp2
 go_ret
 rw [HF.out];exact ⟨rfl,(Q.refl _).alloc _⟩
theorem notN_any (k c:Int) (w:World):Calls Tryz.prog 175 #[.agg #[.int .i64 k,.int .i64 c]] w fun e w'=>e = .returned (.bool (!isN (k,c))) /\ Q w w':=by
 have HF:Hid ((!isN (k,c)) = (k != 4)):=Hd (by simp [isN,bne]);generalize (!isN (k,c)) = r at *;go_enter Tryz.func175,Tryz.ntmps175
 go_wp2
 go_ret
 rw [HF.out];exact ⟨rfl,(Q.refl _).alloc _⟩
theorem isN_any (k c:Int) (w:World):Calls Tryz.prog 176 #[.agg #[.int .i64 k,.int .i64 c]] w fun e w'=>e = .returned (.bool (isN (k,c))) /\ Q w w':=by
 have HF:Hid (isN (k,c) = (k == 4)):=Hd (by simp [isN]);generalize isN (k,c) = r at *;go_enter Tryz.func176,Tryz.ntmps176
 go_wp2
 go_ret
 rw [HF.out];exact ⟨rfl,(Q.refl _).alloc _⟩
def isL (x:Int × Int):Bool:=x.1 == 0
theorem isL_any (k c:Int) (w:World):Calls Tryz.prog 191 #[.agg #[.int .i64 k,.int .i64 c]] w fun e w'=>e = .returned (.bool (isL (k,c))) /\ Q w w':=by
 have HF:Hid (isL (k,c) = (k == 0)):=Hd (by simp [isL]);generalize isL (k,c) = r at *;go_enter Tryz.func191,Tryz.ntmps191
 go_wp2
 go_ret
 rw [HF.out];exact ⟨rfl,(Q.refl _).alloc _⟩
end Pg
end
section
open Go.RowKit
namespace Pr
open Pt Um
def inS (c:Int) (l:List UInt8):Bool:=l.any fun b=>c == ((b.toNat:Nat):Int)
theorem inS_at {c:Int} {s:ByteArray} {k:Nat} (hk:k < s.size) (h:c = (((s[k]'hk).toNat:Nat):Int)):inS c s.data.toList = true:=by
 unfold inS;rw [List.any_eq_true];refine ⟨s[k],?_,by rw [h];simp⟩;exact List.getElem_mem (l:=s.data.toList) (n:=k) (by rw [size_list];exact hk)
theorem inS_no {c:Int} {s:ByteArray} (h:∀ k (hk:k < s.size),c ≠ (((s[k]'hk).toNat:Nat):Int)):inS c s.data.toList = false:=by
 unfold inS;rw [List.any_eq_false];intro b hb;obtain ⟨k,hk,he⟩:=List.mem_iff_getElem.1 hb;rw [size_list] at hk;have:=h k hk;intro hb;rw [beq_iff_eq] at hb;refine this ?_;rw [hb,<- he];rfl
theorem in_any (c:Int) (s:ByteArray) (w:World) (hs:s.size <= 1000000) :
  Calls Tryz.prog 190 #[.int .i64 c,.string s] w fun e w'=>e = .returned (.bool (inS c s.data.toList)) /\ w = w':=by
 have HA:=Hd (fun k hk=>@inS_at c s k hk);have HN:=Hd (@inS_no c s);generalize inS c s.data.toList = r at *;go_enter Tryz.func190,Tryz.ntmps190
 go_wp2_with fail
 go_loopw [5] (fun i wr=>∃ k:Nat,i = .int .i64 k /\ k <= s.size /\ (∀ j (hj:j < s.size),j < k -> c ≠ (((s[j]'hj).toNat:Nat):Int)) /\ w = wr) (fun i _=>s.size - (intOf i).toNat)
 case atStart=>exact ⟨0,rfl,by omega,fun j _ h=>absurd h (Nat.not_lt_zero j),rfl⟩
 case round =>
  obtain ⟨k,rfl,hk,hno,rfl⟩:=hrel;have HNO:=Hd hno;clear hno;by_cases hlt:k < s.size
  ·have hlti:(k:Int) < (s.size:Int):=by omega
   have hub:=Ur.u8b (s[k]'hlt);by_cases hc:c = (((s[k]'hlt).toNat:Nat):Int)
   ·have HF:=Hd (HA.out k hlt hc)
    have hcb:(c == (((s[k]'hlt).toNat:Nat):Int)) = true:=by rw [hc];simp
    have HC:=Hd hc;clear hc;go_wp2_with fail
    go_ret
    rw [HF.out];exact ⟨rfl,rfl⟩
   ·have hcb:(c == (((s[k]'hlt).toNat:Nat):Int)) = false:=beq_eq_false_iff_ne.2 hc
    have HC:=Hd hc;clear hc;go_wp2_with fail
    refine ⟨⟨k + 1,by go_num,by omega,fun j hj hjk=>?_,trivial⟩,by simp [intOf];omega⟩;by_cases h:j = k
    ·subst h;exact HC.out
    ·exact HNO.out j hj (by omega)
  ·have HF:=Hd (HN.out fun j hj=>HNO.out j hj (by omega))
   go_wp2_with fail
   go_ret
   rw [HF.out];exact ⟨rfl,rfl⟩
theorem in_four (c:Int):inS c [35,48,44,46] = (c == 35 || (c == 48 || (c == 44 || c == 46))):=by simp [inS]
theorem in_bad (c:Int):inS c [49,50,51,52,53,54,55,56,57,64,42,43,69] = true ↔ ((49 <= c /\ c <= 57) \/ c = 64 \/ c = 42 \/ c = 43 \/ c = 69):=by
 simp [inS];omega
theorem kind_any (c:Int) (w:World) :
  Calls Tryz.prog 168 #[.int .i64 c] w fun e w'=>e = .returned (.int .i64 (kindC c)) /\ w = w':=by
 have hi4:=fun w=>in_any c ⟨#[35,48,44,46]⟩ w (by decide);have hi6:=fun w=>in_any c ⟨#[49,50,51,52,53,54,55,56,57,64,42,43,69]⟩ w (by decide);have e4:inS c (⟨#[35,48,44,46]⟩:ByteArray).data.toList = decide (c = 35 \/ c = 48 \/ c = 44 \/ c = 46):=by
  rw [show (⟨#[35,48,44,46]⟩:ByteArray).data.toList = [35,48,44,46] from rfl,in_four,Bool.eq_iff_iff];simp
 have e6:inS c (⟨#[49,50,51,52,53,54,55,56,57,64,42,43,69]⟩:ByteArray).data.toList = decide ((49 <= c /\ c <= 57) \/ c = 64 \/ c = 42 \/ c = 43 \/ c = 69):=by
  rw [show (⟨#[49,50,51,52,53,54,55,56,57,64,42,43,69]⟩:ByteArray).data.toList = [49,50,51,52,53,54,55,56,57,64,42,43,69] from rfl,Bool.eq_iff_iff,in_bad];simp
 rw [e4] at hi4;rw [e6] at hi6;obtain ⟨K,hK⟩:∃ K,K = kindC c:=⟨_,rfl⟩;rw [<- hK];unfold kindC at hK;have main:∀ (b4 b6:Bool),decide (c = 35 \/ c = 48 \/ c = 44 \/ c = 46) = b4 -> decide ((49 <= c /\ c <= 57) \/ c = 64 \/ c = 42 \/ c = 43 \/ c = 69) = b6 ->
   Calls Tryz.prog 168 #[.int .i64 c] w fun e w'=>e = .returned (.int .i64 K) /\ w = w':=by
  intro b4 b6 h4 h6;rw [h4] at hi4;rw [h6] at hi6;have HI4:=Hd hi4;have HI6:=Hd hi6;clear hi4 hi6 e4 e6;by_cases h1:c = 164
  ·have HF:Hid (K = 1):=Hd (by rw [hK,if_pos h1])
   subst h1;clear hK h4 h6;go_enter Tryz.func168,Tryz.ntmps168
   go_wp2_with fail
   go_ret
   rw [HF.out];exact ⟨rfl,rfl⟩
  ·rw [if_neg h1] at hK
   by_cases h2:c = 37
   ·have HF:Hid (K = 2):=Hd (by rw [hK,if_pos h2])
    subst h2;clear hK h4 h6;go_enter Tryz.func168,Tryz.ntmps168
    go_wp2_with fail
    go_ret
    rw [HF.out];exact ⟨rfl,rfl⟩
   ·rw [if_neg h2] at hK
    by_cases h3:c = 45
    ·have HF:Hid (K = 3):=Hd (by rw [hK,if_pos h3])
     subst h3;clear hK h4 h6;go_enter Tryz.func168,Tryz.ntmps168
     go_wp2_with fail
     go_ret
     rw [HF.out];exact ⟨rfl,rfl⟩
    ·rw [if_neg h3] at hK
     have g1:(c == 164) = false:=beq_eq_false_iff_ne.2 h1;have g2:(c == 37) = false:=beq_eq_false_iff_ne.2 h2;have g3:(c == 45) = false:=beq_eq_false_iff_ne.2 h3;cases b4
     ·rw [if_neg (of_decide_eq_false h4)] at hK
      by_cases h5:c = 59
      ·have HF:Hid (K = 5):=Hd (by rw [hK,if_pos h5])
       subst h5;clear hK h4 h6;go_enter Tryz.func168,Tryz.ntmps168
       go_wp2_with fail
       refine (HI4.out _).mono ?_;rintro e w1 ⟨rfl,rfl⟩;go_wp2_with fail
       go_ret
       rw [HF.out];exact ⟨rfl,rfl⟩
      ·rw [if_neg h5] at hK
       have g5:(c == 59) = false:=beq_eq_false_iff_ne.2 h5;cases b6
       ·have HF:Hid (K = 0):=Hd (by rw [hK,if_neg (of_decide_eq_false h6)])
        clear hK h4 h6 h1 h2 h3 h5;go_enter Tryz.func168,Tryz.ntmps168
        go_wp2_with fail
        refine (HI4.out _).mono ?_;rintro e w1 ⟨rfl,rfl⟩;go_wp2_with fail
        refine (HI6.out _).mono ?_;rintro e w1 ⟨rfl,rfl⟩;go_wp2_with fail
        go_ret
        rw [HF.out];exact ⟨rfl,rfl⟩
       ·have HF:Hid (K = 6):=Hd (by rw [hK,if_pos (of_decide_eq_true h6)])
        clear hK h4 h6 h1 h2 h3 h5;go_enter Tryz.func168,Tryz.ntmps168
        go_wp2_with fail
        refine (HI4.out _).mono ?_;rintro e w1 ⟨rfl,rfl⟩;go_wp2_with fail
        refine (HI6.out _).mono ?_;rintro e w1 ⟨rfl,rfl⟩;go_wp2_with fail
        go_ret
        rw [HF.out];exact ⟨rfl,rfl⟩
     ·have HF:Hid (K = 4):=Hd (by rw [hK,if_pos (of_decide_eq_true h4)])
      clear hK h4 h6 h1 h2 h3;go_enter Tryz.func168,Tryz.ntmps168
      go_wp2_with fail
      refine (HI4.out _).mono ?_;rintro e w1 ⟨rfl,rfl⟩;go_wp2_with fail
      go_ret
      rw [HF.out];exact ⟨rfl,rfl⟩
 exact main _ _ rfl rfl
end Pr
end
section
open Go.RowKit
namespace Sr
open Sm Um
theorem nm_at:∀ i,i < 20 -> nz (nmL.getD i []) = zrs.getD i 0 /\ (nmL.getD i [],zrs.getD i 0) ∈ tab:=by decide +kernel
theorem names_any (w:World) :
  Calls Tryz.prog 70 #[] w fun e w'=>∃ g,e = .returned (.slice (some ⟨g,0,none⟩) 20 20) /\ g < w'.heap.size /\ (∀ k,k < 20 -> w'.cell? ⟨g,k,none⟩ = some (.string ⟨(nmL.getD k []).toArray⟩)) /\ SLst w' (.slice (some ⟨g,0,none⟩) 20 20) nmB /\ Q w w':=by
 have hl:=GLst.made Value.string 9 w nmB 20 rfl (by unfold maxLen;omega);have he:(nmB.map Value.string).toArray = #[.string ⟨(nmL.getD 0 []).toArray⟩,.string ⟨(nmL.getD 1 []).toArray⟩,.string ⟨(nmL.getD 2 []).toArray⟩,.string ⟨(nmL.getD 3 []).toArray⟩,.string ⟨(nmL.getD 4 []).toArray⟩,.string ⟨(nmL.getD 5 []).toArray⟩,.string ⟨(nmL.getD 6 []).toArray⟩,.string ⟨(nmL.getD 7 []).toArray⟩,.string ⟨(nmL.getD 8 []).toArray⟩,.string ⟨(nmL.getD 9 []).toArray⟩,.string ⟨(nmL.getD 10 []).toArray⟩,.string ⟨(nmL.getD 11 []).toArray⟩,.string ⟨(nmL.getD 12 []).toArray⟩,.string ⟨(nmL.getD 13 []).toArray⟩,.string ⟨(nmL.getD 14 []).toArray⟩,.string ⟨(nmL.getD 15 []).toArray⟩,.string ⟨(nmL.getD 16 []).toArray⟩,.string ⟨(nmL.getD 17 []).toArray⟩,.string ⟨(nmL.getD 18 []).toArray⟩,.string ⟨(nmL.getD 19 []).toArray⟩]:=rfl;rw [he] at hl;clear he;have hc:∀ k,k < 20 -> ∀ w',SLst w' (.slice (some ⟨w.heap.size,0,none⟩) 20 20) nmB -> w'.cell? ⟨w.heap.size,k,none⟩ = some (.string ⟨(nmL.getD k []).toArray⟩):=by
  intro k hk w' h;obtain ⟨g,off,cap,hv,_,_,_,hc⟩:=GLst.cellOf h (n:=20) rfl (nmB_at k hk);cases hv;rw [Nat.zero_add] at hc;exact hc
 have HC:=Hd hc;have HL:=Hd hl;clear hc hl;go_enter Tryz.func70,Tryz.ntmps70
 go_wp2_with fail
 go_ret
 exact ⟨_,rfl,by simp,fun k hk=>HC.out k hk _ HL.out,HL.out,(Q.refl _).alloc _⟩
theorem noughts_any (w:World) :
  Calls Tryz.prog 162 #[] w fun e w'=>∃ g,e = .returned (.slice (some ⟨g,0,none⟩) 20 20) /\ (∀ k,k < 20 -> w'.cell? ⟨g,k,none⟩ = some (.int .i64 (zrs.getD k 0))) /\ Q w w':=by
 have hl:=Lst.made w zrs 20 rfl (by unfold maxLen;omega);have hc:∀ k,k < 20 -> ∀ w',Lst w' (.slice (some ⟨w.heap.size,0,none⟩) 20 20) zrs -> w'.cell? ⟨w.heap.size,k,none⟩ = some (.int .i64 (zrs.getD k 0)):=by
  intro k hk w' h;obtain ⟨g,off,cap,hv,_,_,_,hc⟩:=h.cellOf (n:=20) rfl hk;cases hv;rw [Nat.zero_add] at hc;exact hc
 have HC:=Hd hc;have HL:=Hd hl;clear hc hl;go_enter Tryz.func162,Tryz.ntmps162
 go_wp2_with fail
 go_ret
 exact ⟨_,rfl,fun k hk=>HC.out k hk _ HL.out,(Q.refl _).alloc _⟩
theorem zero_any (x:ByteArray) (w:World) :
  Calls Tryz.prog 127 #[.string x] w fun e w'=>e = .returned (.int .i64 (nz x.data.toList)) /\ Q w w':=by
 obtain ⟨y,hy⟩:∃ y,y = x.data.toList:=⟨_,rfl⟩;have HY:=Hd hy;have hm1:∀ k:Nat,k < 20 -> (⟨(nmL.getD k []).toArray⟩:ByteArray) = x -> nz x.data.toList = zrs.getD k 0:=by
  intro k hk h;rw [<- h];exact (nm_at k hk).1
 have hm2:(∀ k:Nat,k < 20 -> (⟨(nmL.getD k []).toArray⟩:ByteArray) ≠ x) -> nz x.data.toList = -1:=by
  intro h;rcases nz_cases x.data.toList with ⟨h1,_⟩ | h1
  ·exact h1
  ·exfalso
   have hmem:x.data.toList ∈ nmL:=List.mem_map.2 ⟨_,h1,rfl⟩;obtain ⟨k,hk,he⟩:=List.mem_iff_getElem.1 hmem;rw [nmL_len] at hk;refine h k hk ?_;rw [List.getD_eq_getElem?_getD,List.getElem?_eq_getElem (by rw [nmL_len];exact hk)];apply ba_ext;show nmL[k] = _;exact he
 have HM1:=Hd hm1;have HM2:=Hd hm2;clear hm1 hm2 hy;generalize nz x.data.toList = z at *;go_enter Tryz.func127,Tryz.ntmps127
 go_wp2_with fail
 refine (names_any _).mono ?_;rintro e w1 ⟨g,rfl,hg,hcell,hsl,hq1⟩;have HCE:=Hd hcell;clear hcell hsl;go_wp2_with fail
 go_loopw [4] (fun i wr=>∃ k:Nat,i = .int .i64 k /\ k <= 20 /\ (∀ j:Nat,j < k -> (⟨(nmL.getD j []).toArray⟩:ByteArray) ≠ x) /\ Q w1 wr) (fun i _=>20 - (intOf i).toNat)
 case atStart=>exact ⟨0,rfl,by omega,fun j hj=>absurd hj (Nat.not_lt_zero j),Q.refl _⟩
 case round =>
  obtain ⟨k,rfl,hk,hno,hq⟩:=hrel;by_cases hlt:k < 20
  ·have c1:wr.cell? ⟨g,k,none⟩ = some (.string ⟨(nmL.getD k []).toArray⟩):=(World.cell?_of_block (w:=w1) (hq.block hg)).trans (HCE.out k hlt)
   have hz1:=HM1.out k hlt;have hn1:(⟨(nmL.getD k []).toArray⟩:ByteArray) ≠ x -> ∀ j:Nat,j < k + 1 -> (⟨(nmL.getD j []).toArray⟩:ByteArray) ≠ x:=by
    intro h j hj;by_cases hjk:j = k
    ·subst hjk;exact h
    ·exact hno j (by omega)
   generalize (⟨(nmL.getD k []).toArray⟩:ByteArray) = p at c1 hz1 hn1;have HN:=Hd hn1;clear hno hn1;by_cases hp:p = x
   ·have HZ:=Hd (hz1 hp)
    subst hp;clear hz1;go_wp2_with fail
    refine (noughts_any _).mono ?_;rintro e w2 ⟨g2,rfl,hc2,hq2⟩;have c2:=hc2 k hlt;rw [<- HZ.out] at c2;clear hc2;go_wp2_with fail
    go_ret
    exact ⟨rfl,(hq1.trans hq).trans hq2⟩
   ·have ht:=str_ne hp
    have HN2:=Hd (HN.out hp);clear hz1 hp;go_wp2_with fail
    exact ⟨⟨k + 1,by go_num,by omega,HN2.out,hq⟩,by simp [intOf];omega⟩
  ·have hke:k = 20:=by omega
   subst hke;have HZ:=Hd (HM2.out hno);clear hno;go_wp2_with fail
   go_ret
   rw [HZ.out];exact ⟨rfl,hq1.trans hq⟩
theorem digit_any (x:ByteArray) (d:Int) (w:World) (h0:0 <= d) (h9:d <= 9) :
  Calls Tryz.prog 68 #[.string x,.int .i64 d] w fun e w'=>e = .returned (.string (encB (nz x.data.toList + d))) /\ Q w w':=by
 have hb:=nz_bd x.data.toList;have hb2:-1 <= nz x.data.toList /\ nz x.data.toList <= 120812:=by omega
 have hz:=fun w=>zero_any x w;clear hb;generalize nz x.data.toList = z at *;go_enter Tryz.func68,Tryz.ntmps68
 go_wp2_with (go_at_call 127;refine (hz _).mono ?_;rintro e w1 ⟨rfl,hq1⟩)
 refine (Ur.encode_any _ _).mono ?_;rintro e w2 ⟨rfl,hq2⟩;go_wp2_with fail
 go_ret
 exact ⟨rfl,hq1.trans hq2⟩
theorem value_any (x:ByteArray) (c:Int) (w:World) :
  Calls Tryz.prog 71 #[.string x,.int .i64 c] w fun e w'=>e = .returned (.int .i64 (vv (nz x.data.toList) c)) /\ Q w w':=by
 have hb:=nz_bd x.data.toList;have hz:=fun w=>zero_any x w;generalize nz x.data.toList = z at *;by_cases h1:z = -1
 ·have HV:Hid (vv z c = -1):=Hd (by unfold vv;rw [if_pos h1])
  have h2:z < 0:=by omega
  clear hb h1;go_enter Tryz.func71,Tryz.ntmps71
  go_wp2_with (go_at_call 127;refine (hz _).mono ?_;rintro e w1 ⟨rfl,hq1⟩)
  go_ret
  rw [HV.out];exact ⟨rfl,hq1⟩
 ·have hb2:48 <= z /\ z <= 120812:=by omega
  have hv:vv z c = vl z c:=by unfold vv;rw [if_neg h1]
  clear hb h1;by_cases h3:c < z
  ·have HV:Hid (vv z c = -1):=Hd (by rw [hv];unfold vl;rw [if_neg (by omega)])
   clear hv;go_enter Tryz.func71,Tryz.ntmps71
   go_wp2_with (go_at_call 127;refine (hz _).mono ?_;rintro e w1 ⟨rfl,hq1⟩)
   go_ret
   rw [HV.out];exact ⟨rfl,hq1⟩
  ·by_cases h4:c <= z + 9
   ·have HV:Hid (vv z c = c - z):=Hd (by rw [hv];unfold vl;rw [if_pos (by omega)])
    clear hv;go_enter Tryz.func71,Tryz.ntmps71
    go_wp2_with (go_at_call 127;refine (hz _).mono ?_;rintro e w1 ⟨rfl,hq1⟩)
    go_ret
    rw [HV.out];exact ⟨rfl,hq1⟩
   ·have HV:Hid (vv z c = -1):=Hd (by rw [hv];unfold vl;rw [if_neg (by omega)])
    clear hv;go_enter Tryz.func71,Tryz.ntmps71
    go_wp2_with (go_at_call 127;refine (hz _).mono ?_;rintro e w1 ⟨rfl,hq1⟩)
    go_ret
    rw [HV.out];exact ⟨rfl,hq1⟩
theorem name_any (n:Int) (w:World) (h0:-9223372036854775808 <= n) (h1:n <= 9223372036854775807) :
  Calls Tryz.prog 86 #[.int .i64 n] w fun e w'=>e = .returned (.string ⟨(nm n).toArray⟩) /\ Q w w':=by
 have hi:=idx_lt n;have hA:=fun w=>Ur.around_any n 20 w h0 h1 (by omega) (by omega);rw [idx_int] at hA;have hn:nm n = nmL.getD (idx n) []:=rfl;rw [hn];clear hn;generalize idx n = k at *;have HA:=Hd hA;clear hA;go_enter Tryz.func86,Tryz.ntmps86
 go_wp2_with fail
 refine (names_any _).mono ?_;rintro e w1 ⟨g,rfl,hg,hcell,hsl,hq1⟩;have c1:=hcell k hi;clear hcell hsl;obtain ⟨p,hp⟩:∃ p,p = (⟨(nmL.getD k []).toArray⟩:ByteArray):=⟨_,rfl⟩;rw [<- hp] at c1;have HP:=Hd hp;clear hp;go_wp2_with fail
 refine (HA.out _).mono ?_;rintro e w2 ⟨rfl,rfl⟩;go_wp2_with fail
 go_ret
 rw [<- HP.out];exact ⟨rfl,hq1⟩
theorem of_step (c:Int) (k:Nat) (hk:k < 20) (h:vv (nz (nmL.getD k [])) c = -1):¬ (zrs.getD k 0 <= c /\ c <= zrs.getD k 0 + 9):=by
 obtain ⟨h1,h2⟩:=nm_at k hk;have hb:=tab_bd _ h2;rw [h1] at h;simp only at hb;unfold vv at h;rw [if_neg (by omega)] at h;unfold vl at h;split at h <;> omega
theorem of_found (c:Int) (k:Nat) (hk:k < 20) (h:vv (nz (nmL.getD k [])) c ≠ -1):ofC c = (nmL.getD k [],vv (nz (nmL.getD k [])) c) /\ 0 <= vv (nz (nmL.getD k [])) c /\ vv (nz (nmL.getD k [])) c <= 9:=by
 obtain ⟨h1,h2⟩:=nm_at k hk;have hb:=tab_bd _ h2;rw [h1] at h |-;simp only at hb;unfold vv at h |-;rw [if_neg (by omega)] at h |-;unfold vl at h |-;split at h
 ·rename_i hc
  rw [if_pos hc];exact ⟨ofC_mem h2 hc.1 hc.2,by omega,by omega⟩
 ·exact absurd rfl h
theorem of_end (c:Int) (h:∀ k:Nat,k < 20 -> ¬ (zrs.getD k 0 <= c /\ c <= zrs.getD k 0 + 9)):ofC c = ([],-1):=by
 refine ofC_none fun p hp=>?_;obtain ⟨k,hk,he⟩:=List.mem_iff_getElem.1 hp;rw [tab_len] at hk;have h1:=h k hk;have:zrs.getD k 0 = p.2:=by
  unfold zrs;rw [List.getD_eq_getElem?_getD,List.getElem?_map,List.getElem?_eq_getElem (by rw [tab_len];exact hk),he];rfl
 rw [this] at h1;exact h1
theorem of_any (c:Int) (w:World) :
  Calls Tryz.prog 36 #[.int .i64 c] w fun e w'=>e = .returned (.tuple #[.string ⟨(ofC c).1.toArray⟩,.int .i64 (ofC c).2]) /\ Q w w':=by
 have HO:=Hd (of_step c);have HF:=Hd (of_found c);have HE:=Hd (of_end c);generalize ofC c = oc at *;go_enter Tryz.func36,Tryz.ntmps36
 go_wp2_with fail
 refine (names_any _).mono ?_;rintro e w1 ⟨g,rfl,hg,hcell,hsl,hq1⟩;have HCE:=Hd hcell;clear hcell hsl;go_wp2_with fail
 go_loopw [5] (fun i wr=>∃ k:Nat,i = .int .i64 k /\ k <= 20 /\ (∀ j:Nat,j < k -> ¬ (zrs.getD j 0 <= c /\ c <= zrs.getD j 0 + 9)) /\ Q w1 wr) (fun i _=>20 - (intOf i).toNat)
 case atStart=>exact ⟨0,rfl,by omega,fun j hj=>absurd hj (Nat.not_lt_zero j),Q.refl _⟩
 case round =>
  obtain ⟨k,rfl,hk,hno,hq⟩:=hrel;have HNO:=Hd hno;clear hno;by_cases hlt:k < 20
  ·have c1:wr.cell? ⟨g,k,none⟩ = some (.string ⟨(nmL.getD k []).toArray⟩):=(World.cell?_of_block (w:=w1) (hq.block hg)).trans (HCE.out k hlt)
   have c1k:∀ w',Q wr w' -> w'.cell? ⟨g,k,none⟩ = some (.string ⟨(nmL.getD k []).toArray⟩):=fun w' q=>(World.cell?_of_block (w:=wr) (q.block (Nat.lt_of_lt_of_le hg hq.le))).trans c1;have hst:=HO.out k hlt;have hfo:=HF.out k hlt;have hV:=fun w=>value_any ⟨(nmL.getD k []).toArray⟩ c w;simp only [List.toList_toArray] at hV;generalize nmL.getD k [] = p at *;generalize vv (nz p) c = u at *;by_cases hu:u = -1
   ·have HS:=Hd (hst hu)
    subst hu;clear hst hfo c1k;go_wp2_with fail
    refine (hV _).mono ?_;rintro e w2 ⟨rfl,hq2⟩;go_wp2_with fail
    refine ⟨⟨k + 1,by go_num,by omega,fun j hj=>?_,hq.trans hq2⟩,by simp [intOf];omega⟩;by_cases hjk:j = k
    ·subst hjk;exact HS.out
    ·exact HNO.out j (by omega)
   ·obtain ⟨he,h0,h9⟩:=hfo hu
    have HEE:=Hd he;clear hst hfo hu he;go_wp2_with fail
    refine (hV _).mono ?_;rintro e w2 ⟨rfl,hq2⟩;have c2:=c1k w2 hq2;go_wp2_with fail
    go_ret2
    rw [HEE.out];exact ⟨rfl,(hq1.trans hq).trans hq2⟩
  ·have hke:k = 20:=by omega
   subst hke;have HZ:=Hd (HE.out HNO.out);go_wp2_with fail
   go_ret2
   rw [HZ.out];exact ⟨rfl,hq1.trans hq⟩
end Sr
end
end Go.Proofs.YteggfkbnnmpcjaaGreatDoor
