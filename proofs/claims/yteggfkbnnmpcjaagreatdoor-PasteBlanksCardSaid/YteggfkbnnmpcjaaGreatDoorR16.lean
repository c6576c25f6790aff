/- What package draft's Of, Atoms, Len, Dec and Text come to, by a walk through each. (and more) -/
import Derived.Test.YteggfkbnnmpcjaaGreatDoorR14
import Derived.TacticsInMore
import Derived.LoopNIn
import Derived.LoopIn
set_option linter.all false
set_option maxRecDepth 100000
set_option maxHeartbeats 8000000
namespace Go.Proofs.YteggfkbnnmpcjaaGreatDoor
section
open Go.RowKit
namespace Tm
theorem LD.zero (w:World) (B:Nat):LD w B (.agg #[.bool false,.slice none 0 0,.bool false,.slice none 0 0]) T0:=⟨none,0,none,0,rfl,Own.nil w B,Own.nil w B⟩
end Tm
namespace Tp
open Tm
end Tp
end
section
open Go.RowKit Go.Shelf
attribute [local go_sem] Oper.semAt_some
namespace Ft
@[reducible] def c8 (r:Lm.Rec):List Value:=[.string (Lm.bs r.nam),.string (Lm.bs r.pat),.string (Lm.bs r.sys),.string (Lm.bs r.dec),.string (Lm.bs r.grp),.string (Lm.bs r.min),.string (Lm.bs r.per),.string (Lm.bs r.cur)]
@[reducible] def rV (r:Lm.Rec):Value:=.agg #[.string (Lm.bs r.nam),.string (Lm.bs r.pat),.string (Lm.bs r.sys),.string (Lm.bs r.dec),.string (Lm.bs r.grp),.string (Lm.bs r.min),.string (Lm.bs r.per),.string (Lm.bs r.cur)]
def flat:List Value:=Fm.tab.flatMap c8
theorem flat_at:∀ (l:List Lm.Rec) (k:Nat) (r:Lm.Rec) (j:Nat),l[k]? = some r -> j < 8 -> (l.flatMap c8)[k * 8 + j]? = (c8 r)[j]?:=by
 intro l;induction l with
 | nil=>intro k r j h;simp at h
 | cons x l ih =>
  intro k r j h hj;rw [List.flatMap_cons];cases k with
  | zero =>
   simp at h;subst h;rw [List.getElem?_append_left (by simp;omega)];congr 1;omega
  | succ k =>
   rw [List.getElem?_cons_succ] at h;rw [List.getElem?_append_right (by simp;omega)];have:=ih k r j h hj;rw [<- this];congr 1
   simp;omega
theorem tab_at {k:Nat} (h:k < 40):Fm.tab[k]? = some (Fm.T k):=by
 have hl:k < Fm.tab.length:=by rw [Fm.tab_len];exact h
 unfold Fm.T;rw [List.getD_eq_getElem?_getD,List.getElem?_eq_getElem hl];rfl
theorem row_cell {w:World} {b:Nat} {T:TypeId} (h:Bk w b T flat) {k:Nat} (hk:k < 40) (j:Nat) {v:Value} (hv:(c8 (Fm.T k))[j]? = some v):w.cell? ⟨b,k * 8 + j,none⟩ = some v:=by
 have hj:j < 8:=(List.getElem?_eq_some_iff.1 hv).1;exact h.cell _ ((flat_at _ k _ j (tab_at hk) hj).trans hv)
end Ft
end
section
open Go.RowKit Um
namespace Fr
open Ft
set_option maxRecDepth 1000000 in
theorem rrecords_any (w:World):Calls Tryz.prog 88 #[] w fun e w'=>e = .returned (.slice (some ⟨w.heap.size,0,none⟩) 40 40) /\ w' = w.alloc (.cells flat.toArray 26) :=
 calls_runF Tryz.func88 (by rfl) (W:=w.alloc (.cells flat.toArray 26)) (v:=.slice (some ⟨w.heap.size,0,none⟩) 40 40) (by kernel_rfl) ⟨rfl,rfl⟩
theorem rrec_q (w:World):Calls Tryz.prog 88 #[] w fun e w'=>∃ b,e = .returned (.slice (some ⟨b,0,none⟩) 40 40) /\ Bk w' b 26 flat /\ Q w w' :=
 (rrecords_any w).mono fun e w' ⟨he,hw⟩=>⟨_,he,by rw [hw];exact Bk.new _ _ _,by rw [hw];exact (Q.refl w).alloc _⟩
theorem infoR:(Tryz.prog.info? 26).map (·.size) = some 8:=by kernel_rfl
theorem one_any (n:Int) (w:World) (h0:-9223372036854775808 <= n) (h1:n <= 9223372036854775807) :
  Calls Tryz.prog 54 #[.int .i64 n] w fun e w'=>e = .returned (rV (Fm.T (around n 40).toNat)) /\ Q w w':=by
 have HA:=Hd (fun u=>Ur.around_any n 40 u h0 h1 (by omega) (by omega));have hba:=around_bd n 40 (by omega);obtain ⟨k,hk⟩:∃ k:Nat,(k:Int) = around n 40:=⟨(around n 40).toNat,by omega⟩;rw [<- hk] at HA hba |-;have hk40:k < 40:=by omega
 have hki:(k:Int) < 40:=by omega
 have hk0:¬ (k:Int) < 0:=by omega
 clear hk hba h0 h1;rw [Int.toNat_natCast];have HT:Hid (rV (Fm.T k) = .agg #[.string (Lm.bs (Fm.T k).nam),.string (Lm.bs (Fm.T k).pat),.string (Lm.bs (Fm.T k).sys),.string (Lm.bs (Fm.T k).dec),.string (Lm.bs (Fm.T k).grp),.string (Lm.bs (Fm.T k).min),.string (Lm.bs (Fm.T k).per),.string (Lm.bs (Fm.T k).cur)]):=Hd rfl;rw [HT.out];clear HT;obtain ⟨s0,hs0⟩:∃ s,s = Lm.bs (Fm.T k).nam:=⟨_,rfl⟩;rw [<- hs0];obtain ⟨s1,hs1⟩:∃ s,s = Lm.bs (Fm.T k).pat:=⟨_,rfl⟩;rw [<- hs1];obtain ⟨s2,hs2⟩:∃ s,s = Lm.bs (Fm.T k).sys:=⟨_,rfl⟩;rw [<- hs2];obtain ⟨s3,hs3⟩:∃ s,s = Lm.bs (Fm.T k).dec:=⟨_,rfl⟩;rw [<- hs3];obtain ⟨s4,hs4⟩:∃ s,s = Lm.bs (Fm.T k).grp:=⟨_,rfl⟩;rw [<- hs4];obtain ⟨s5,hs5⟩:∃ s,s = Lm.bs (Fm.T k).min:=⟨_,rfl⟩;rw [<- hs5];obtain ⟨s6,hs6⟩:∃ s,s = Lm.bs (Fm.T k).per:=⟨_,rfl⟩;rw [<- hs6];obtain ⟨s7,hs7⟩:∃ s,s = Lm.bs (Fm.T k).cur:=⟨_,rfl⟩;rw [<- hs7];obtain ⟨z,hz⟩:∃ z,z = w.alloc (.cells #[.string ⟨#[]⟩,.string ⟨#[]⟩,.string ⟨#[]⟩,.string ⟨#[]⟩,.string ⟨#[]⟩,.string ⟨#[]⟩,.string ⟨#[]⟩,.string ⟨#[]⟩] 26):=⟨_,rfl⟩;have HQZ:=Hd (show Q w z by rw [hz];exact (Q.refl w).alloc _);have hb:Bk z w.heap.size 26 [.string ⟨#[]⟩,.string ⟨#[]⟩,.string ⟨#[]⟩,.string ⟨#[]⟩,.string ⟨#[]⟩,.string ⟨#[]⟩,.string ⟨#[]⟩,.string ⟨#[]⟩]:=by rw [hz];exact Bk.new _ _ _
 go_enter Tryz.func54,Tryz.ntmps54
 go_wp2_with fail
 rw [<- hz];clear hz;obtain ⟨B,hBe⟩:∃ B,B = w.heap.size:=⟨_,rfl⟩;have HWB:=Hd (show w.heap.size <= B by omega);rw [<- hBe] at hb |-;clear hBe;refine (rrec_q _).mono ?_;rintro e w1 ⟨b,rfl,hB,hq⟩;have h2:=hb.q hq;replace HQZ:=Hd (HQZ.out.trans hq);clear hb hq;have c0:w1.cell? ⟨b,k * 8,none⟩ = _:=row_cell hB hk40 0 rfl;have c1:=row_cell hB hk40 1 rfl;have c2:=row_cell hB hk40 2 rfl;have c3:=row_cell hB hk40 3 rfl;have c4:=row_cell hB hk40 4 rfl;have c5:=row_cell hB hk40 5 rfl;have c6:=row_cell hB hk40 6 rfl;have c7:=row_cell hB hk40 7 rfl;rw [<- hs0] at c0;rw [<- hs1] at c1;rw [<- hs2] at c2;rw [<- hs3] at c3;rw [<- hs4] at c4;rw [<- hs5] at c5;rw [<- hs6] at c6;rw [<- hs7] at c7;clear hs0 hs1 hs2 hs3 hs4 hs5 hs6 hs7;go_wp2_with fail
 refine (HA.out _).mono ?_;rintro e w2 ⟨rfl,rfl⟩;have p0:=h2.cell 0 rfl;have f0:=h2.free 0;have p1:=h2.cell 1 rfl;have f1:=h2.free 1;have p2:=h2.cell 2 rfl;have f2:=h2.free 2;have p3:=h2.cell 3 rfl;have f3:=h2.free 3;have p4:=h2.cell 4 rfl;have f4:=h2.free 4;have p5:=h2.cell 5 rfl;have f5:=h2.free 5;have p6:=h2.cell 6 rfl;have f6:=h2.free 6;have p7:=h2.cell 7 rfl;have f7:=h2.free 7;have HFB:=Hd ((((((((h2.set 0 (.string s0)).set 1 (.string s1)).set 2 (.string s2)).set 3 (.string s3)).set 4 (.string s4)).set 5 (.string s5)).set 6 (.string s6)).set 7 (.string s7));have HFQ:=Hd (Q.setCell (Q.setCell (Q.setCell (Q.setCell (Q.setCell (Q.setCell (Q.setCell (Q.setCell HQZ.out (ad:=⟨B,0,none⟩) HWB.out (.string s0)) (ad:=⟨B,1,none⟩) HWB.out (.string s1)) (ad:=⟨B,2,none⟩) HWB.out (.string s2)) (ad:=⟨B,3,none⟩) HWB.out (.string s3)) (ad:=⟨B,4,none⟩) HWB.out (.string s4)) (ad:=⟨B,5,none⟩) HWB.out (.string s5)) (ad:=⟨B,6,none⟩) HWB.out (.string s6)) (ad:=⟨B,7,none⟩) HWB.out (.string s7));clear h2 hB;go_wp2_with fail
 refine ret_bk rfl Tryz.underlying26 (by exact infoR) rfl HFB.out rfl ⟨?_,HFQ.out⟩;rfl
end Fr
end
section
open Go.RowKit
namespace Bl
theorem Is.q {B b:Nat} {bs:List Value} {w w':World} (h:Is B b bs w) (hq:Q w w'):Is B b bs w':=by
 have key:∀ p,Lib.BuilderAtF 93 5 B b p bs w -> Lib.BuilderAtF 93 5 B b p bs w':=by
  rintro p ⟨hB,v,hv,hown,hne⟩;have hlt:=(Array.getElem?_eq_some_iff.1 hv).1;refine ⟨hB,v,(hq.block hlt).trans hv,hown.kept (row:=none) ⟨hq.os,hq.tape,hq.output,hq.size,fun k hk _=>hq.block hk⟩ ?_,hne⟩;cases v.ownBlock <;> simp
 exact h.elim (fun x=>.inl (key _ x)) (fun x=>.inr (key _ x))
end Bl
namespace Pg
open Pt Um
def Asks (F:Nat) (p:Int × Int -> Bool):Prop:=∀ (k c:Int) (w:World),Calls Tryz.prog F #[.agg #[.int .i64 k,.int .i64 c]] w fun e w'=>e = .returned (.bool (p (k,c))) /\ Q w w'
def ah (p:Int × Int -> Bool) (l:List (Int × Int)):Nat:=(l.takeWhile p).length
theorem ah_le (p:Int × Int -> Bool) (l:List (Int × Int)):ah p l <= l.length:=(List.takeWhile_prefix _).length_le
theorem ah_yes {p:Int × Int -> Bool} {l:List (Int × Int)} {k:Nat} (hk:k < l.length) (h:p (l.getD k (0,0)) = true):ah p (l.drop k) = 1 + ah p (l.drop (k + 1)):=by
 have e:l.getD k (0,0) = l[k]:=by rw [List.getD_eq_getElem?_getD,List.getElem?_eq_getElem hk];rfl
 rw [e] at h;unfold ah;rw [List.drop_eq_getElem_cons hk,List.takeWhile_cons,if_pos h];simp;omega
theorem ah_no {p:Int × Int -> Bool} {l:List (Int × Int)} {k:Nat} (hk:k < l.length) (h:p (l.getD k (0,0)) = false):ah p (l.drop k) = 0:=by
 have e:l.getD k (0,0) = l[k]:=by rw [List.getD_eq_getElem?_getD,List.getElem?_eq_getElem hk];rfl
 rw [e] at h;unfold ah;rw [List.drop_eq_getElem_cons hk,List.takeWhile_cons,if_neg (by rw [h];simp)];rfl
theorem ah_end {p:Int × Int -> Bool} {l:List (Int × Int)} {k:Nat} (hk:¬ k < l.length):ah p (l.drop k) = 0:=by
 rw [List.drop_eq_nil_of_le (by omega)];rfl
theorem ahead_any (F:Nat) (p:Int × Int -> Bool) (hf:Asks F p) (eg:∀ args w,(callFunc F args).run Tryz.prog w = .ok (.enter F args) w) (v:Value) (l:List (Int × Int)) (w:World) (hv:Sg.LstP w v l) (hl:l.length <= 1000000) :
  Calls Tryz.prog 171 #[v,.func (.func F) #[] #[]] w fun e w'=>e = .returned (.int .i64 ((ah p l:Nat):Int)) /\ Q w w':=by
 obtain ⟨n,hn⟩:∃ n,n = l.length:=⟨_,rfl⟩;have HN:=Hd hn;have HV:=Hd hv;have HF:=Hd hf;obtain ⟨a,cp,rfl,hc1,hc2⟩:=hv.form0 hn.symm;rw [<- hn] at hl;obtain ⟨A,hA⟩:∃ A,A = ah p l:=⟨_,rfl⟩;have HA0:=Hd (show A = 0 + ah p (l.drop 0) by rw [List.drop_zero];omega);rw [<- hA];clear hA hn hv hf;go_enter Tryz.func171,Tryz.ntmps171
 go_wp2_with fail
 go_loopw [9] (fun i wr=>∃ k:Nat,i = .int .i64 k /\ k <= n /\ Hid (A = k + ah p (l.drop k)) /\ Q w wr) (fun i _=>n - (intOf i).toNat)
 case atStart=>exact ⟨0,rfl,by omega,HA0,Q.refl _⟩
 case round =>
  obtain ⟨k,rfl,hk,HA,hq⟩:=hrel;by_cases hlt:k < n
  ·have hlti:(k:Int) < (n:Int):=by omega
   have hkl:k < l.length:=by have:=HN.out;omega
   obtain ⟨g,off,cap,hvv,hg,_,_,c1,c2⟩:=(HV.out.q hq).cellOf HN.out.symm hlt;cases hvv;have HY:=Hd (fun h=>ah_yes (p:=p) hkl h);have HO:=Hd (fun h=>ah_no (p:=p) hkl h);obtain ⟨x,hx⟩:∃ x,x = l.getD k (0,0):=⟨_,rfl⟩;rw [<- hx] at c1 c2 HY HO;obtain ⟨xk,xc⟩:=x;clear hx;have hfx:=fun w=>HF.out xk xc w;obtain ⟨b,hb⟩:∃ b,b = p (xk,xc):=⟨_,rfl⟩;rw [<- hb] at hfx;have HB:=Hd hb;have HFX:=Hd hfx;clear hb hfx;go_wp2_with fail
   refine (HFX.out _).mono ?_;rintro e w3 ⟨rfl,hq3⟩;have hq4:Q w w3:=Q.trans (by first | exact hq.alloc _ | exact Q.setCell (Q.setCell (hq.alloc _) hq.le _) hq.le _) hq3;cases b
   ·have HE:=Hd (show A = k by have h1:=HA.out;rw [HO.out HB.out.symm] at h1;omega)
    go_wp2_with fail
    go_ret
    rw [HE.out];exact ⟨rfl,hq4⟩
   ·have HE:=Hd (show A = (k + 1) + ah p (l.drop (k + 1)) by have h1:=HA.out;rw [HY.out HB.out.symm] at h1;omega)
    go_wp2_with fail
    exact ⟨⟨k + 1,by go_num,by omega,HE,hq4⟩,by simp [intOf];omega⟩
  ·have hnlt:¬ (k:Int) < (n:Int):=by omega
   have HE:=Hd (show A = n by have h1:=HA.out;rw [ah_end (by have:=HN.out;omega)] at h1;omega);go_wp2_with fail
   go_ret
   rw [HE.out];exact ⟨rfl,hq⟩
theorem enters45 (args:Array Value) (w:World):(callFunc 172 args).run Tryz.prog w = .ok (.enter 172 args) w:=by go_simp
theorem sgB_snoc (l:List (Int × Int)) (k:Nat) (hk:k < l.length):(l.take (k + 1)).flatMap (fun x=>encL x.2) = (l.take k).flatMap (fun x=>encL x.2) ++ encL (l.getD k (0,0)).2:=by
 rw [List.getD_eq_getElem?_getD,List.getElem?_eq_getElem hk,List.take_succ_eq_append_getElem hk,List.flatMap_append];simp
theorem encL_len (c:Int):(encL c).length <= 4:=by unfold encL;rw [size_list];exact encB_size c
theorem sgB_len (l:List (Int × Int)):(l.flatMap fun x=>encL x.2).length <= 4 * l.length:=by
 induction l with
 | nil=>simp
 | cons x r ih=>rw [List.flatMap_cons,List.length_append];have:=encL_len x.2;simp only [List.length_cons];omega
theorem text_any (v:Value) (l:List (Int × Int)) (w:World) (hv:Sg.LstP w v l) (hl:l.length <= 1000000) :
  Calls Tryz.prog 179 #[v] w fun e w'=>e = .returned (.string ⟨(l.flatMap fun x=>encL x.2).toArray⟩) /\ Q w w':=by
 obtain ⟨n,hn⟩:∃ n,n = l.length:=⟨_,rfl⟩;have HN:=Hd hn;have HV:=Hd hv;obtain ⟨a,cp,rfl,hc1,hc2⟩:=hv.form0 hn.symm;rw [<- hn] at hl;have HTL:=Hd (fun k=>sgB_len (l.take k));have HTS:=Hd (sgB_snoc l);have HT0:=Hd (show l.flatMap (fun x=>encL x.2) = (l.take n).flatMap (fun x=>encL x.2) by rw [hn,List.take_length]);obtain ⟨T,hT⟩:∃ T:Nat -> List UInt8,T = fun k=>(l.take k).flatMap (fun x=>encL x.2):=⟨_,rfl⟩;have hT':∀ k,(l.take k).flatMap (fun x=>encL x.2) = T k:=fun k=>by rw [hT]
 simp only [hT'] at HTL HTS HT0;rw [HT0.out];have hfr:=Bl.Is.fresh w;have h0:T 0 = []:=by rw [hT];rfl
 rw [<- h0] at hfr;have HB0:=Hd hfr;clear hn hv hT hT' hfr h0 HT0;go_enter Tryz.func179,Tryz.ntmps179
 go_wp2_with fail
 go_loopw [8] (fun i wr=>∃ k:Nat,i = .int .i64 k /\ k <= n /\ Bl.Is w.heap.size w.heap.size (Lib.byteCells (T k)) wr /\ Q w wr) (fun i _=>n - (intOf i).toNat)
 case atStart=>exact ⟨0,rfl,by omega,HB0.out,(Q.refl _).alloc _⟩
 case round =>
  obtain ⟨k,rfl,hk,hI,hq⟩:=hrel;have hqs:=hq.le;by_cases hlt:k < n
  ·have hlti:(k:Int) < (n:Int):=by omega
   have hkl:k < l.length:=by have:=HN.out;omega
   obtain ⟨g,off,cap,hvv,hg,_,_,c1,c2⟩:=(HV.out.q hq).cellOf HN.out.symm hlt;cases hvv;have HSN:=Hd (HTS.out k hkl);have hTL:=HTL.out k;have hle:(l.take k).length <= k:=List.length_take_le _ _;obtain ⟨x,hx⟩:∃ x,x = l.getD k (0,0):=⟨_,rfl⟩;rw [<- hx] at c1 c2 HSN;obtain ⟨xk,xc⟩:=x;have hz:=encB_size xc;have HTK:=Hd (show (T k).length <= 4000000 by omega);clear hx hTL hle;go_wp2_with fail
   refine (encode_any _ _).mono ?_;rintro e w3 ⟨rfl,rfl⟩;have hqa:=hq.alloc (.cells #[.int .i64 xk,.int .i64 xc] 216);have hIa:=hI.q ((Q.refl wr).alloc (.cells #[.int .i64 xk,.int .i64 xc] 216));have hqsa:=hqa.le;have hTK:=HTK.out;go_wp2_with fail
   refine (Bl.write_any _ _ _ _ _ hIa (by rw [Bl.cells_length];omega) hqsa).mono ?_;rintro e w4 ⟨rfl,hI2,hb2,_⟩;go_wp2_with fail
   exact ⟨⟨k + 1,by go_num,by omega,by rw [HSN.out];exact hI2.write,Below.trans hqa hb2⟩,by simp [intOf];omega⟩
  ·have hnlt:¬ (k:Int) < (n:Int):=by omega
   obtain rfl:k = n:=by omega
   go_wp2_with fail
   refine (Bl.done_any _ _ _ _ hI hqs).mono ?_;rintro e w' ⟨rfl,hb2⟩;go_wp2_with fail
   go_ret
   exact ⟨rfl,Below.trans hq hb2⟩
theorem elP:Pc.El 196 102:=⟨by kernel_rfl,Tryz.underlying102⟩
abbrev OwnP (w:World) (B:Nat) (v:Value) (l:List Pc.E):Prop:=Pc.OwnE 196 w B v l
theorem joinT_lit (l r:List (Int × Int)) (h:∀ x ∈ l,x.1 = 0):∀ t,joinT t (l ++ r) = joinT (t ++ l.flatMap fun x=>encL x.2) r:=by
 induction l with
 | nil=>intro t;simp
 | cons x l ih =>
  intro t;show (if x.1 = 0 then joinT (t ++ encL x.2) (l ++ r) else _) = _
  rw [if_pos (h x List.mem_cons_self),ih fun y hy=>h y (List.mem_cons_of_mem _ hy),List.flatMap_cons,List.append_assoc]
theorem joinT_out {t:List UInt8} {r:List (Int × Int)} (ht:t ≠ []) (hr:r = [] \/ (r.getD 0 (0,0)).1 ≠ 0):joinT t r = (0,t) :: joinT [] r:=by
 cases r with
 | nil=>simp [joinT,ht]
 | cons x r =>
  have hx:x.1 ≠ 0:=by
   rcases hr with h | h
   ·cases h
   ·simpa using h
  show (if x.1 = 0 then _ else (if t = [] then [] else [(0,t)]) ++ (x.1,[]) :: joinT [] r) = (0,t) :: (if x.1 = 0 then _ else (if ([]:List UInt8) = [] then [] else [(0,[])]) ++ (x.1,[]) :: joinT [] r)
  rw [if_neg hx,if_neg hx,if_neg ht,if_pos rfl];rfl
theorem joinT_one {x:Int × Int} {r:List (Int × Int)} (hx:x.1 ≠ 0):joinT [] (x :: r) = (x.1,[]) :: joinT [] r:=by
 show (if x.1 = 0 then _ else (if ([]:List UInt8) = [] then [] else [(0,[])]) ++ (x.1,[]) :: joinT [] r) = _
 rw [if_neg hx,if_pos rfl];rfl
theorem tw_all {p:Int × Int -> Bool} (l:List (Int × Int)):∀ x ∈ l.take (ah p l),p x = true:=by
 unfold ah;induction l with
 | nil=>intro x hx;simp at hx
 | cons y r ih =>
  intro x hx;rw [List.takeWhile_cons] at hx;split at hx
  ·rename_i h
   simp only [List.length_cons,List.take_succ_cons] at hx;rcases List.mem_cons.1 hx with rfl | hx
   ·exact h
   ·exact ih x hx
  ·simp at hx
theorem tw_next {p:Int × Int -> Bool} (l:List (Int × Int)):l.drop (ah p l) = [] \/ p ((l.drop (ah p l)).getD 0 (0,0)) = false:=by
 unfold ah;induction l with
 | nil=>left;simp
 | cons y r ih =>
  rw [List.takeWhile_cons];split
  ·rename_i h
   simpa using ih
  ·rename_i h
   right
   simpa using h
theorem joinT_ah (l:List (Int × Int)) (h0:ah isL l ≠ 0) (hne:∀ x ∈ l,encL x.2 ≠ []):joinT [] l = (0,(l.take (ah isL l)).flatMap fun x=>encL x.2) :: joinT [] (l.drop (ah isL l)):=by
 have e:l = l.take (ah isL l) ++ l.drop (ah isL l):=(List.take_append_drop _ _).symm;conv=>lhs;rw [e]
 rw [joinT_lit _ _ (fun x hx=>by have:=tw_all l x hx;simpa [isL] using this),List.nil_append];refine joinT_out ?_ ?_
 ·cases l with
  | nil=>exact absurd rfl h0
  | cons y r =>
   obtain ⟨k,hk⟩:∃ k,ah isL (y :: r) = k + 1:=⟨ah isL (y :: r) - 1,by omega⟩;rw [hk,List.take_succ_cons,List.flatMap_cons];have:=hne y List.mem_cons_self;intro e;exact this (List.append_eq_nil_iff.1 e).1
 ·rcases tw_next (p:=isL) l with h | h
  ·exact .inl h
  ·right;simpa [isL] using h
theorem enters61 (args:Array Value) (w:World):(callFunc 191 args).run Tryz.prog w = .ok (.enter 191 args) w:=by go_simp
theorem joinT_len (l:List (Int × Int)):∀ t,(joinT t l).length <= l.length + (if t = [] then 0 else 1):=by
 induction l with
 | nil=>intro t;unfold joinT;split <;> simp
 | cons x r ih =>
  intro t;show (if x.1 = 0 then joinT (t ++ encL x.2) r else (if t = [] then [] else [(0,t)]) ++ (x.1,[]) :: joinT [] r).length <= _
  split
  ·have:=ih (t ++ encL x.2)
   simp only [List.length_cons];split at this <;> omega
  ·have:=ih []
   rw [if_pos rfl] at this;split <;> simp only [List.length_cons,List.length_append,List.length_nil] <;> omega
def lenOf:Value -> Nat
 | .slice _ n _=>n
 | _=>0
theorem pieces_any (v:Value) (l:List (Int × Int)) (w:World) (hv:Sg.LstP w v l) (hl:l.length <= 1000000) (hk:∀ x ∈ l,x.1 <= 3) (hne:∀ x ∈ l,encL x.2 ≠ []) :
  Calls Tryz.prog 177 #[v] w fun e w'=>∃ u,e = .returned u /\ OwnP w' w.heap.size u (joinT [] l) /\ Q w w':=by
 have HK:=Hd hk;have HNE:=Hd hne;obtain ⟨n,hn⟩:∃ n,n = l.length:=⟨_,rfl⟩;have HN:=Hd hn;have HV:=Hd hv;obtain ⟨a,cp,rfl,hc1,hc2⟩:=hv.form0 hn.symm;rw [<- hn] at hl;clear hn hv hk hne;go_enter Tryz.func177,Tryz.ntmps177
 go_wp2_with fail
 go_loopw [0,3] (fun x u wr=>∃ (k m:Nat) (o:List Pc.E) (ad:Option Addr) (c:Nat),x = .slice ad m c /\ k + m = n /\ Hid (Sg.LstP w (.slice ad m c) (l.drop k)) /\ OwnP wr w.heap.size u o /\ Hid (o ++ joinT [] (l.drop k) = joinT [] l) /\ o.length <= k /\ Q w wr) (fun x _ _=>(lenOf x))
 case atStart=>exact ⟨0,n,[],a,cp,rfl,by omega,by rw [List.drop_zero];exact HV,Pc.OwnE.nil _ _ _,Hd (by rw [List.drop_zero];rfl),by simp,Q.refl _⟩
 case round =>
  obtain ⟨k,m,o,ad,c,rfl,hkm,HL,ho,HJ,hok,hq⟩:=hrel;have hqs:=hq.le;have HLL:=Hd (show (l.drop k).length = m by rw [List.length_drop,<- HN.out];omega);obtain ⟨L,hL⟩:∃ L,L = l.drop k:=⟨_,rfl⟩;have HD:=Hd (fun (z:Nat)=>(show L.drop z = l.drop (k + z) by rw [hL,List.drop_drop]));have HKL:=Hd (show ∀ x ∈ L,x.1 <= 3 from fun x hx=>HK.out x (by rw [hL] at hx;exact List.mem_of_mem_drop hx));have HNL:=Hd (show ∀ x ∈ L,encL x.2 ≠ [] from fun x hx=>HNE.out x (by rw [hL] at hx;exact List.mem_of_mem_drop hx));rw [<- hL] at HL HLL HJ;clear hL;have hfm:=HL.out.form0 HLL.out;have hcc:m <= c /\ c <= maxLen:=by obtain ⟨_,_,hv2,h1,h2⟩:=hfm;cases hv2;exact ⟨h1,h2⟩
  unfold maxLen at hcc;clear hfm;by_cases hm:m = 0
  ·subst hm
   have HF:=Hd (show joinT [] l = o by
    have:=HJ.out;rw [List.eq_nil_of_length_eq_zero HLL.out] at this;rw [<- this];simp [joinT])
   go_wp2_with fail
   go_ret
   rw [HF.out];exact ⟨_,rfl,ho,hq⟩
  ·have hmi:(0:Int) < (m:Int):=by omega
   have hAH:=fun w hv=>ahead_any 191 isL isL_any enters61 (.slice ad m c) L w hv (by rw [HLL.out];omega);have hAle:=ah_le isL L;have HJA:=Hd (joinT_ah L);have HT:Hid (∀ w a,Sg.LstP w (.slice ad m c) L -> a <= m -> Calls Tryz.prog 179 #[.slice ad a c] w fun e w'=>e = .returned (.string ⟨((L.take a).flatMap fun x=>encL x.2).toArray⟩) /\ Q w w'):=Hd (fun w a hv ha=>text_any _ _ w (hv.take a (by rw [HLL.out];omega)) (by rw [List.length_take,HLL.out];omega));obtain ⟨A,hA⟩:∃ A,A = ah isL L:=⟨_,rfl⟩;rw [<- hA] at hAH hAle HJA;rw [HLL.out] at hAle;have HAH:=Hd hAH;have HA:=Hd hA;clear hA hAH;go_wp2_with fail
   refine (HAH.out _ (HL.out.q hq)).mono ?_;rintro e w2 ⟨rfl,hq2⟩;by_cases hA0:A = 0
   ·subst hA0
    obtain ⟨g,off,cap,hvv,hg,_,_,c1,c2⟩:=(HL.out.q (hq.trans hq2)).cellOf HLL.out (show 0 < m by omega);cases hvv;rw [Nat.zero_mul,Nat.add_zero] at c1 c2;obtain ⟨x,r,hxr⟩:∃ x r,L = x :: r:=by
     cases hL2:L with
     | nil=>have:=HLL.out;rw [hL2] at this;simp at this;omega
     | cons x r=>exact ⟨x,r,rfl⟩
    have hx0:x.1 ≠ 0:=by
     have h:=HA.out;rw [hxr] at h;intro e;unfold ah at h;rw [List.takeWhile_cons,if_pos (by simp [isL,e])] at h;simp at h
    have hx3:x.1 <= 3:=HKL.out x (by rw [hxr];exact List.mem_cons_self);have HJ2:=Hd (show o ++ [(x.1,[])] ++ joinT [] (L.drop 1) = joinT [] l by
     rw [<- HJ.out,hxr,joinT_one hx0];simp)
    rw [hxr] at c1 c2;replace c1:w2.cell? ⟨g,off,none⟩ = some (.int .i64 x.1):=c1;obtain ⟨xk,hxk⟩:∃ xk,xk = x.1:=⟨_,rfl⟩;rw [<- hxk] at c1 HJ2 hx3;clear c2 hxr hx0 hxk;have ho2:=ho.q hq2;have hq22:=hq.trans hq2;have hqs2:=hq22.le;go_wp2_with fail
    refine (need_yes _).mono ?_;rintro e w3 ⟨rfl,rfl⟩;go_wp2_with (at_builtin;refine Pc.push elP ho2 rfl _ _ rfl xk ByteArray.empty (by rfl) (by rfl) (by omega) hqs2 ?_)
    intro v' w4 ho4 hg4 hat4;have hq4:=hq22.grown hg4 (fun j h=>(ho2.lt j h).1);have ho4:OwnP w4 w.heap.size v' (o ++ [(xk,[])]):=ho4;rcases HL.out.rest HLL.out (show 1 <= m by omega) with ⟨g3,off3,ha,hlt5,hcc2,hcm,hdp⟩ | ⟨hkn,hcn,hdp⟩ | ⟨ad3,ha,hkn,hcc2,hcm,hdp⟩
    ·cases ha
     have HDP:=Hd hdp;clear hdp;go_wp2_with fail
     exact ⟨⟨k + 1,m - 1,o ++ [(xk,[])],_,_,rfl,by omega,Hd (by have h:=HDP.out;rw [HD.out] at h;exact h),ho4,Hd (by have h:=HJ2.out;rw [HD.out] at h;exact h),by simp;omega,hq4⟩,by show m - 1 < m;omega⟩
    ·subst hcn hkn
     have HDP:=Hd hdp;clear hdp;go_wp2_with fail
     exact ⟨⟨k + 1,0,o ++ [(xk,[])],_,_,rfl,by omega,Hd (by have h:=HDP.out;rw [HD.out] at h;rw [h];exact Sg.LstP.nil _ _ _ (by unfold maxLen;omega) (fun _=>rfl)),ho4,Hd (by have h:=HJ2.out;rw [HD.out] at h;exact h),by simp;omega,hq4⟩,by show 0 < 1;omega⟩
    ·subst hkn
     cases ha;have HDP:=Hd hdp;clear hdp;go_wp2_with fail
     exact ⟨⟨k + 1,0,o ++ [(xk,[])],_,_,rfl,by omega,Hd (by have h:=HDP.out;rw [HD.out] at h;rw [h];exact Sg.LstP.nil _ _ _ (by unfold maxLen;omega) (fun h=>nomatch h)),ho4,Hd (by have h:=HJ2.out;rw [HD.out] at h;exact h),by simp;omega,hq4⟩,by show 0 < 1;omega⟩
   ·have hAi:(0:Int) < (A:Int):=by omega
    go_wp2_with fail
    refine (HT.out _ A (HL.out.q (hq.trans hq2)) hAle).mono ?_;rintro e w3 ⟨rfl,hq3⟩;obtain ⟨T,hT⟩:∃ T,T = (L.take A).flatMap fun x=>encL x.2:=⟨_,rfl⟩;have HJ2:=Hd (show o ++ [(0,T)] ++ joinT [] (L.drop A) = joinT [] l by
     rw [<- HJ.out,HJA.out hA0 HNL.out,<- hT];simp)
    have hTl:T.length <= 4000000:=by have:=sgB_len (L.take A);rw [<- hT,List.length_take,HLL.out] at this;omega
    rw [<- hT];clear hT;have hq23:=hq2.trans hq3;have ho2:=ho.q hq23;have hq22:=hq.trans hq23;have hqs2:=hq22.le;go_wp2_with (at_builtin;refine Pc.push elP ho2 rfl _ _ rfl 0 ⟨T.toArray⟩ (by rfl) (by rfl) (by omega) hqs2 ?_)
    intro v' w4 ho4 hg4 hat4;have hq4:=hq22.grown hg4 (fun j h=>(ho2.lt j h).1);have ho4:OwnP w4 w.heap.size v' (o ++ [(0,T)]):=ho4;rcases HL.out.rest HLL.out hAle with ⟨g3,off3,ha,hlt5,hcc2,hcm,hdp⟩ | ⟨hkn,hcn,hdp⟩ | ⟨ad3,ha,hkn,hcc2,hcm,hdp⟩
    ·cases ha
     have HDP:=Hd hdp;clear hdp;go_wp2_with fail
     exact ⟨⟨k + A,m - A,o ++ [(0,T)],_,_,rfl,by omega,Hd (by have h:=HDP.out;rw [HD.out] at h;exact h),ho4,Hd (by have h:=HJ2.out;rw [HD.out] at h;exact h),by simp;omega,hq4⟩,by show m - A < m;omega⟩
    ·subst hcn hkn
     have HDP:=Hd hdp;clear hdp;go_wp2_with fail
     exact ⟨⟨k + A,0,o ++ [(0,T)],_,_,rfl,by omega,Hd (by have h:=HDP.out;rw [HD.out] at h;rw [h];exact Sg.LstP.nil _ _ _ (by unfold maxLen;omega) (fun _=>rfl)),ho4,Hd (by have h:=HJ2.out;rw [HD.out] at h;exact h),by simp;omega,hq4⟩,by show 0 < A;omega⟩
    ·subst ha hkn
     have HDP:=Hd hdp;clear hdp;go_wp2_with fail
     exact ⟨⟨k + A,0,o ++ [(0,T)],_,_,rfl,by omega,Hd (by have h:=HDP.out;rw [HD.out] at h;rw [h];exact Sg.LstP.nil _ _ _ (by unfold maxLen;omega) (fun h=>nomatch h)),ho4,Hd (by have h:=HJ2.out;rw [HD.out] at h;exact h),by simp;omega,hq4⟩,by show 0 < A;omega⟩
end Pg
end
end Go.Proofs.YteggfkbnnmpcjaaGreatDoor
