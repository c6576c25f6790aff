/- The document's own answers on locales: pick, New, text, Affixes, Sign. (and more) -/
import Derived.Test.YteggfkbnnmpcjaaGreatDoorR37
set_option linter.all false
set_option maxRecDepth 100000
set_option maxHeartbeats 8000000
namespace Go.Proofs.YteggfkbnnmpcjaaGreatDoor
section
open Go.RowKit
namespace Ro
open Um Lo
def lC (r:Lm.Rec) (X:Pt.Pat) (a b c d:Value):List Value:=[.string (Lm.bs r.nam),.string (Lm.bs r.pat),.string (Lm.bs r.sys),.string (Lm.bs r.dec),.string (Lm.bs r.grp),.string (Lm.bs r.min),.string (Lm.bs r.per),.string (Lm.bs r.cur),a,b,c,d,.int .i64 X.pr,.int .i64 X.se,.int .i64 X.mi,.int .i64 X.mf,.int .i64 X.xf]
@[reducible] def lV (r:Lm.Rec) (X:Pt.Pat) (a b c d:Value):Value:=.agg #[.string (Lm.bs r.nam),.string (Lm.bs r.pat),.string (Lm.bs r.sys),.string (Lm.bs r.dec),.string (Lm.bs r.grp),.string (Lm.bs r.min),.string (Lm.bs r.per),.string (Lm.bs r.cur),a,b,c,d,.int .i64 X.pr,.int .i64 X.se,.int .i64 X.mi,.int .i64 X.mf,.int .i64 X.xf]
def LL (w:World) (X:Pt.Pat) (a b c d:Value):Prop:=Pc.LstP w a X.pre /\ Pc.LstP w b X.suf /\ Pc.LstP w c X.npre /\ Pc.LstP w d X.nsuf
theorem LL.q {w w':World} {X:Pt.Pat} {a b c d:Value} (h:LL w X a b c d) (hq:Q w w'):LL w' X a b c d:=⟨h.1.q hq,h.2.1.q hq,h.2.2.1.q hq,h.2.2.2.q hq⟩
theorem size_al (w:World) (o:Obj):(w.alloc o).heap.size = w.heap.size + 1:=by
 show (w.heap.push o).size = w.heap.size + 1;simp
theorem pick_any (v:Value) (xs:List ByteArray) (n:Int) (w:World) (hv:SLst w v xs) (h1:1 <= xs.length) (hx:xs.length <= 1000) (h0:-9223372036854775808 <= n) (hn:n <= 9223372036854775807) :
  Calls Tryz.prog 87 #[v,.int .i64 n] w fun e w'=>(∃ k,k < xs.length /\ e = .returned (.string (xs.getD k ⟨#[]⟩))) /\ w = w':=by
 obtain ⟨m,hm⟩:∃ m,m = xs.length:=⟨_,rfl⟩;have hA:=fun w=>Ur.around_any n m w h0 hn (by omega) (by omega);have hbd:=around_bd n m (by omega);obtain ⟨k,hk⟩:∃ k:Nat,(k:Int) = around n m:=⟨(around n m).toNat,by omega⟩;rw [<- hk] at hA hbd;have hkm:k < m:=by omega
 have hkmi:(k:Int) < (m:Int):=by omega
 have hk0:¬ (k:Int) < 0:=by omega
 obtain ⟨x,hx2⟩:∃ x,xs[k]? = some x:=⟨_,List.getElem?_eq_getElem (by omega)⟩;obtain ⟨g,off,cap,rfl,hg,_,_,c1⟩:=hv.cellOf hm.symm hx2;have HX:=Hd (show xs.getD k ⟨#[]⟩ = x by rw [List.getD_eq_getElem?_getD,hx2];rfl);have HA:=Hd hA;have HM:=Hd hm;have HKM:=Hd hkm;clear hv hk hbd hA hx hm hx2 h1;go_enter Tryz.func87,Tryz.ntmps87
 go_wp2_with fail
 refine (HA.out _).mono ?_;rintro e w1 ⟨rfl,rfl⟩;go_wp2_with fail
 go_ret
 exact ⟨⟨k,by rw [<- HM.out];exact HKM.out,by rw [HX.out];rfl⟩,rfl⟩
theorem rs_ptx (r:Lm.Rec) (A:List Pc.E) (h:∀ x ∈ A,(0 <= x.1 /\ x.1 <= 3)):Pr.resL (Lm.bs r.cur) (Lm.bs r.per) ⟨#[]⟩ A = Lm.atx r A:=by
 induction A with
 | nil=>rfl
 | cons x A ih =>
  have hx:=h x List.mem_cons_self;unfold Pr.resL Lm.atx at *;rw [List.flatMap_cons,List.flatMap_cons,ih (fun y hy=>h y (List.mem_cons_of_mem _ hy))];congr 1
  unfold Pr.resF Lm.ptx;rw [Lm.bs_list,Lm.bs_list];by_cases h0:x.1 = 0
  ·rw [if_pos h0,if_neg (by omega)]
  ·rw [if_neg h0,if_pos (by omega)]
theorem text_any (r:Lm.Rec) (v:Value) (A:List Pc.E) (w:World) (hv:Pc.LstP w v A) (hA:A.length <= 1000000) (hk:∀ x ∈ A,(0 <= x.1 /\ x.1 <= 3)) (hz:(Lm.atx r A).length <= 1000000) :
  Calls Tryz.prog 73 #[recV r,v] w fun e w'=>e = .returned (.string (Lm.bs (Lm.atx r A))) /\ Q w w':=by
 have hR:=fun u (hq:Q w u)=>Pr.resolve_any v A (Lm.bs r.cur) (Lm.bs r.per) ⟨#[]⟩ u (hv.q hq) hA (by rw [rs_ptx r A hk];omega);rw [rs_ptx r A hk] at hR;have HR:=Hd hR;obtain ⟨a0,c0,rfl⟩:=hv.shape;have HF:Hid ((⟨(Lm.atx r A).toArray⟩:ByteArray) = Lm.bs (Lm.atx r A)):=Hd rfl;rw [HF.out] at HR;generalize Lm.bs (Lm.atx r A) = Z at *;generalize A.length = n at *;unfold recV;generalize Lm.bs r.nam = s0 at *;generalize Lm.bs r.pat = s1 at *;generalize Lm.bs r.sys = s2 at *;generalize Lm.bs r.dec = s3 at *;generalize Lm.bs r.grp = s4 at *;generalize Lm.bs r.min = s5 at *;generalize Lm.bs r.per = s6 at *;generalize Lm.bs r.cur = s7 at *;have HQA:=Hd ((Q.refl w).alloc (.cells #[.string s0,.string s1,.string s2,.string s3,.string s4,.string s5,.string s6,.string s7] 26));clear hv hA hk hz hR HF;go_enter Tryz.func73,Tryz.ntmps73
 go_wp2_with fail
 refine (HR.out _ HQA.out).mono ?_;rintro e w1 ⟨rfl,hq1⟩;go_wp2_with fail
 go_ret
 exact ⟨rfl,HQA.out.trans hq1⟩
theorem affixes_any (X:Pt.Pat) (a b c d:Value) (w:World) (hL:LL w X a b c d) :
  Calls Tryz.prog 72 #[Pr.pv a b c d X.pr X.se X.mi X.mf X.xf] w fun e w'=>∃ v,e = .returned v /\ GLst id w' v [a,b,c,d] /\ Q w w':=by
 obtain ⟨h1,h2,h3,h4⟩:=hL;obtain ⟨a1,a2,rfl⟩:=h1.shape;obtain ⟨b1,b2,rfl⟩:=h2.shape;obtain ⟨d1,d2,rfl⟩:=h3.shape;obtain ⟨e1,e2,rfl⟩:=h4.shape;generalize X.pre.length = n1 at *;generalize X.suf.length = n2 at *;generalize X.npre.length = n3 at *;generalize X.nsuf.length = n4 at *;generalize X.pr = p1 at *;generalize X.se = p2 at *;generalize X.mi = p3 at *;generalize X.mf = p4 at *;generalize X.xf = p5 at *;clear h1 h2 h3 h4;unfold Pr.pv;go_enter Tryz.func72,Tryz.ntmps72
 go_wp2_with fail
 go_ret
 have hm:=GLst.made id 27 (w.alloc (.cells #[.slice a1 n1 a2,.slice b1 n2 b2,.slice d1 n3 d2,.slice e1 n4 e2,.int .i64 p1,.int .i64 p2,.int .i64 p3,.int .i64 p4,.int .i64 p5] 29)) [.slice a1 n1 a2,.slice b1 n2 b2,.slice d1 n3 d2,.slice e1 n4 e2] 4 rfl (by unfold maxLen;omega);rw [show (w.alloc (.cells #[.slice a1 n1 a2,.slice b1 n2 b2,.slice d1 n3 d2,.slice e1 n4 e2,.int .i64 p1,.int .i64 p2,.int .i64 p3,.int .i64 p4,.int .i64 p5] 29)).heap.size = w.heap.size + 1 from size_al _ _] at hm;exact ⟨_,rfl,hm,((Q.refl w).alloc _).alloc _⟩
def Same (B:Nat) (w w':World):Prop:=w.heap.size <= w'.heap.size /\ ∀ g,g ≠ B -> g < w.heap.size -> w'.heap[g]? = w.heap[g]?
theorem Same.refl (B:Nat) (w:World):Same B w w:=⟨Nat.le_refl _,fun _ _ _=>rfl⟩
theorem Same.set {B:Nat} {w w':World} (h:Same B w w') (i:Nat) (v:Value):Same B w (w'.setCell ⟨B,i,none⟩ v):=by
 have hg:=Gap.setCell w' B i v B (B + 1) (Nat.le_refl _) (Nat.lt_succ_self _);refine ⟨Nat.le_trans h.1 ?_,fun g hg1 hg2=>?_⟩
 ·show w'.heap.size <= (w'.setCell ⟨B,i,none⟩ v).heap.size
  unfold World.setCell;simp
 ·rw [hg.block g (Nat.lt_of_lt_of_le hg2 h.1) (by omega)];exact h.2 g hg1 hg2
theorem LstP_aside {w w':World} {B:Nat} {T:TypeId} {L:List Value} {v:Value} {l:List Pc.E} (h:Pc.LstP w v l) (hb:Bk w B T L) (hs:∀ (o:Nat) (k:Int) (t:ByteArray),L[o]? = some (.int .i64 k) -> L[o + 1]? = some (.string t) -> False) (hS:Same B w w'):Pc.LstP w' v l:=by
 by_cases hl:l = []
 ·rcases h with h | ⟨g,off,cap,hv,hg,h1,h2,hc⟩
  ·exact .inl h
  ·subst hl
   refine .inr ⟨g,off,cap,hv,Nat.lt_of_lt_of_le hg hS.1,h1,h2,fun i hi=>by simp at hi⟩
 ·rcases h with ⟨h,_⟩ | ⟨g,off,cap,hv,hg,h1,h2,hc⟩
  ·exact absurd h hl
  ·have hpos:0 < l.length:=List.length_pos_iff.2 hl
   have hne:g ≠ B:=by
    intro e;subst e;obtain ⟨c1,c2⟩:=hc 0 hpos;rw [Lib.cell_of_heap hb] at c1 c2;exact hs (off + 0 * 2) _ _ (by simpa using c1) (by unfold Pc.txt at c2;simpa using c2)
   refine .inr ⟨g,off,cap,hv,Nat.lt_of_lt_of_le hg hS.1,h1,h2,fun i hi=>?_⟩;obtain ⟨c1,c2⟩:=hc i hi;exact ⟨(World.cell?_of_block (w:=w) (hS.2 g hne hg)).trans c1,(World.cell?_of_block (w:=w) (hS.2 g hne hg)).trans c2⟩
def zL:List Value:=[.string ⟨#[]⟩,.string ⟨#[]⟩,.string ⟨#[]⟩,.string ⟨#[]⟩,.string ⟨#[]⟩,.string ⟨#[]⟩,.string ⟨#[]⟩,.string ⟨#[]⟩,.slice none 0 0,.slice none 0 0,.slice none 0 0,.slice none 0 0,.int .i64 0,.int .i64 0,.int .i64 0,.int .i64 0,.int .i64 0]
theorem zL_sep:∀ (o:Nat) (k:Int) (t:ByteArray),zL[o]? = some (.int .i64 k) -> zL[o + 1]? = some (.string t) -> False:=by
 intro o k t h1 h2;rcases Nat.lt_or_ge o 17 with h | h
 ·have:o = 0 \/ o = 1 \/ o = 2 \/ o = 3 \/ o = 4 \/ o = 5 \/ o = 6 \/ o = 7 \/ o = 8 \/ o = 9 \/ o = 10 \/ o = 11 \/ o = 12 \/ o = 13 \/ o = 14 \/ o = 15 \/ o = 16:=by omega
  rcases this with rfl | rfl | rfl | rfl | rfl | rfl | rfl | rfl | rfl | rfl | rfl | rfl | rfl | rfl | rfl | rfl | rfl <;> simp [zL] at h1 h2
 ·rw [List.getElem?_eq_none (by simpa [zL] using h)] at h1;cases h1
theorem infoL:(Tryz.prog.info? 31).map (·.size) = some 17:=by kernel_rfl
theorem new_any (r:Lm.Rec) (X:Pt.Pat) (w:World) (hp:(Pt.parseC (allL r.pat)).1 = X) (hl:r.pat.length <= 1000) :
  Calls Tryz.prog 52 #[recV r] w fun e w'=>∃ a b c d,e = .returned (lV r X a b c d) /\ LL w' X a b c d /\ Q w w':=by
 have hP:=fun u=>Pr.Parse_all (Lm.bs r.pat) u (by rw [Lm.bs_size];omega);rw [Lm.bs_list,hp] at hP;have HP:=Hd hP;generalize (Pt.parseC (allL r.pat)).2 = er at *;unfold recV lV;generalize Lm.bs r.nam = s0 at *;generalize Lm.bs r.pat = s1 at *;generalize Lm.bs r.sys = s2 at *;generalize Lm.bs r.dec = s3 at *;generalize Lm.bs r.grp = s4 at *;generalize Lm.bs r.min = s5 at *;generalize Lm.bs r.per = s6 at *;generalize Lm.bs r.cur = s7 at *;clear hP hp hl;obtain ⟨z,hz⟩:∃ z,z = (w.alloc (.cells #[.string s0,.string s1,.string s2,.string s3,.string s4,.string s5,.string s6,.string s7] 26)).alloc (.cells #[.string ⟨#[]⟩,.string ⟨#[]⟩,.string ⟨#[]⟩,.string ⟨#[]⟩,.string ⟨#[]⟩,.string ⟨#[]⟩,.string ⟨#[]⟩,.string ⟨#[]⟩,.slice none 0 0,.slice none 0 0,.slice none 0 0,.slice none 0 0,.int .i64 0,.int .i64 0,.int .i64 0,.int .i64 0,.int .i64 0] 31):=⟨_,rfl⟩;have HQZ:=Hd (show Q w z by rw [hz];exact ((Q.refl w).alloc _).alloc _);have HB1:=Hd (show Bk z w.heap.size 26 [.string s0,.string s1,.string s2,.string s3,.string s4,.string s5,.string s6,.string s7] by rw [hz];exact (Bk.new w _ _).q ((Q.refl _).alloc _));have HB2:=Hd (show Bk z (w.heap.size + 1) 31 [.string ⟨#[]⟩,.string ⟨#[]⟩,.string ⟨#[]⟩,.string ⟨#[]⟩,.string ⟨#[]⟩,.string ⟨#[]⟩,.string ⟨#[]⟩,.string ⟨#[]⟩,.slice none 0 0,.slice none 0 0,.slice none 0 0,.slice none 0 0,.int .i64 0,.int .i64 0,.int .i64 0,.int .i64 0,.int .i64 0] by rw [hz,<- size_al w (.cells #[.string s0,.string s1,.string s2,.string s3,.string s4,.string s5,.string s6,.string s7] 26)];exact Bk.new _ _ _);go_enter Tryz.func52,Tryz.ntmps52
 go_wp2_with fail
 rw [<- hz];clear hz;have HW:=Hd (show w.heap.size <= w.heap.size + 1 by omega);obtain ⟨B,hB⟩:∃ B,B = w.heap.size + 1:=⟨_,rfl⟩;rw [<- hB] at HB2 HW |-;clear hB;obtain ⟨B1,hB1⟩:∃ B1,B1 = w.heap.size:=⟨_,rfl⟩;have HW2:=Hd (show ∀ u,Q w u -> True from fun _ _=>trivial);rw [<- hB1] at HB1 |-;clear hB1;refine (HP.out _).mono ?_;rintro e w1 ⟨v,rfl,hpv,hq1⟩;obtain ⟨a,b,c,d,rfl,ha,hb,hc,hd⟩:=hpv;have HLL:=Hd (show LL w1 X a b c d from ⟨ha,hb,hc,hd⟩);obtain ⟨n0,hn0⟩:∃ n,n = X.pre.length:=⟨_,rfl⟩;obtain ⟨n1,hn1⟩:∃ n,n = X.suf.length:=⟨_,rfl⟩;obtain ⟨n2,hn2⟩:∃ n,n = X.npre.length:=⟨_,rfl⟩;obtain ⟨n3,hn3⟩:∃ n,n = X.nsuf.length:=⟨_,rfl⟩;obtain ⟨a1,a2,rfl,_,_⟩:=ha.form0 hn0.symm;obtain ⟨b1,b2,rfl,_,_⟩:=hb.form0 hn1.symm;obtain ⟨c1,c2,rfl,_,_⟩:=hc.form0 hn2.symm;obtain ⟨d1,d2,rfl,_,_⟩:=hd.form0 hn3.symm;have HQ1:=Hd (HQZ.out.trans hq1);have h1:=HB1.out.q hq1;have h2:=HB2.out.q hq1;have HLT:=Hd (show B < w1.heap.size from h2.lt);obtain ⟨y,hy⟩:∃ y,y = w1.alloc (.cells #[.slice a1 n0 a2,.slice b1 n1 b2,.slice c1 n2 c2,.slice d1 n3 d2,.int .i64 X.pr,.int .i64 X.se,.int .i64 X.mi,.int .i64 X.mf,.int .i64 X.xf] 29):=⟨_,rfl⟩;have hqy:Q w1 y:=by rw [hy];exact (Q.refl w1).alloc _
 have hb3:Bk y w1.heap.size 29 [.slice a1 n0 a2,.slice b1 n1 b2,.slice c1 n2 c2,.slice d1 n3 d2,.int .i64 X.pr,.int .i64 X.se,.int .i64 X.mi,.int .i64 X.mf,.int .i64 X.xf]:=by rw [hy];exact Bk.new _ _ _
 have h1a:=h1.q hqy;have h2a:=h2.q hqy;have HLY:=Hd (HLL.out.q hqy);have HNE:=Hd (show w1.heap.size <= y.heap.size from hqy.le);have HQY:=Hd (HQ1.out.trans hqy);clear ha hb hc hd hn0 hn1 hn2 hn3;unfold Pr.pv;go_upto_region 2 with fail
 rw [<- hy];clear hy;generalize w1.heap.size = bP at *;have ce0:=h1a.cell 0 rfl;have ce1:=h1a.cell 1 rfl;have ce2:=h1a.cell 2 rfl;have ce3:=h1a.cell 3 rfl;have ce4:=h1a.cell 4 rfl;have ce5:=h1a.cell 5 rfl;have ce6:=h1a.cell 6 rfl;have ce7:=h1a.cell 7 rfl;have q0:=hb3.cell 0 rfl;have q1:=hb3.cell 1 rfl;have q2:=hb3.cell 2 rfl;have q3:=hb3.cell 3 rfl;have q4:=hb3.cell 4 rfl;have q5:=hb3.cell 5 rfl;have q6:=hb3.cell 6 rfl;have q7:=hb3.cell 7 rfl;have q8:=hb3.cell 8 rfl;have p0:=h2a.cell 0 rfl;have f0:=h2a.free 0;have p1:=h2a.cell 1 rfl;have f1:=h2a.free 1;have p2:=h2a.cell 2 rfl;have f2:=h2a.free 2;have p3:=h2a.cell 3 rfl;have f3:=h2a.free 3;have p4:=h2a.cell 4 rfl;have f4:=h2a.free 4;have p5:=h2a.cell 5 rfl;have f5:=h2a.free 5;have p6:=h2a.cell 6 rfl;have f6:=h2a.free 6;have p7:=h2a.cell 7 rfl;have f7:=h2a.free 7;have p8:=h2a.cell 8 rfl;have f8:=h2a.free 8;have p9:=h2a.cell 9 rfl;have f9:=h2a.free 9;have p10:=h2a.cell 10 rfl;have f10:=h2a.free 10;have p11:=h2a.cell 11 rfl;have f11:=h2a.free 11;have p12:=h2a.cell 12 rfl;have f12:=h2a.free 12;have p13:=h2a.cell 13 rfl;have f13:=h2a.free 13;have p14:=h2a.cell 14 rfl;have f14:=h2a.free 14;have p15:=h2a.cell 15 rfl;have f15:=h2a.free 15;have p16:=h2a.cell 16 rfl;have f16:=h2a.free 16;have HFB:=Hd (((((((((((((((((h2a.set 0 (.string s0)).set 1 (.string s1)).set 2 (.string s2)).set 3 (.string s3)).set 4 (.string s4)).set 5 (.string s5)).set 6 (.string s6)).set 7 (.string s7)).set 8 (.slice a1 n0 a2)).set 9 (.slice b1 n1 b2)).set 10 (.slice c1 n2 c2)).set 11 (.slice d1 n3 d2)).set 12 (.int .i64 X.pr)).set 13 (.int .i64 X.se)).set 14 (.int .i64 X.mi)).set 15 (.int .i64 X.mf)).set 16 (.int .i64 X.xf));have HFQ:=Hd (Q.setCell (Q.setCell (Q.setCell (Q.setCell (Q.setCell (Q.setCell (Q.setCell (Q.setCell (Q.setCell (Q.setCell (Q.setCell (Q.setCell (Q.setCell (Q.setCell (Q.setCell (Q.setCell (Q.setCell HQY.out (ad:=⟨B,0,none⟩) HW.out (.string s0)) (ad:=⟨B,1,none⟩) HW.out (.string s1)) (ad:=⟨B,2,none⟩) HW.out (.string s2)) (ad:=⟨B,3,none⟩) HW.out (.string s3)) (ad:=⟨B,4,none⟩) HW.out (.string s4)) (ad:=⟨B,5,none⟩) HW.out (.string s5)) (ad:=⟨B,6,none⟩) HW.out (.string s6)) (ad:=⟨B,7,none⟩) HW.out (.string s7)) (ad:=⟨B,8,none⟩) HW.out (.slice a1 n0 a2)) (ad:=⟨B,9,none⟩) HW.out (.slice b1 n1 b2)) (ad:=⟨B,10,none⟩) HW.out (.slice c1 n2 c2)) (ad:=⟨B,11,none⟩) HW.out (.slice d1 n3 d2)) (ad:=⟨B,12,none⟩) HW.out (.int .i64 X.pr)) (ad:=⟨B,13,none⟩) HW.out (.int .i64 X.se)) (ad:=⟨B,14,none⟩) HW.out (.int .i64 X.mi)) (ad:=⟨B,15,none⟩) HW.out (.int .i64 X.mf)) (ad:=⟨B,16,none⟩) HW.out (.int .i64 X.xf));have hsm:=((((((((((((((((((Same.refl B y).set 0 (.string s0)).set 1 (.string s1)).set 2 (.string s2)).set 3 (.string s3)).set 4 (.string s4)).set 5 (.string s5)).set 6 (.string s6)).set 7 (.string s7)).set 8 (.slice a1 n0 a2)).set 9 (.slice b1 n1 b2)).set 10 (.slice c1 n2 c2)).set 11 (.slice d1 n3 d2)).set 12 (.int .i64 X.pr)).set 13 (.int .i64 X.se)).set 14 (.int .i64 X.mi)).set 15 (.int .i64 X.mf)).set 16 (.int .i64 X.xf));have HFL:=Hd (show LL _ X _ _ _ _ from ⟨LstP_aside HLY.out.1 h2a zL_sep hsm,LstP_aside HLY.out.2.1 h2a zL_sep hsm,LstP_aside HLY.out.2.2.1 h2a zL_sep hsm,LstP_aside HLY.out.2.2.2 h2a zL_sep hsm⟩);clear h1 h2 h1a h2a hq1 hb3 hqy hsm;go_wp2_with fail
 refine ret_bk rfl Tryz.underlying31 (by exact infoL) rfl HFB.out rfl ⟨_,_,_,_,rfl,?_,HFQ.out⟩;exact HFL.out
end Ro
end
end Go.Proofs.YteggfkbnnmpcjaaGreatDoor
