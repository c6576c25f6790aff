/- A record's symbols; the list of what is looked at. (and more) -/
import Derived.Test.YtdjhkbholijnmaaGreatDoorR34
set_option linter.all false
set_option maxRecDepth 100000
set_option maxHeartbeats 8000000
namespace Go.Proofs.YtdjhkbholijnmaaGreatDoor
section
open Go.RowKit
namespace Lo
open Um Cm Gm
def arK (r:Lm.Rec) (k:Nat):List Value:=[.string (if 0 < k then Lm.dgt r 0 else ⟨#[]⟩),.string (if 1 < k then Lm.dgt r 1 else ⟨#[]⟩),.string (if 2 < k then Lm.dgt r 2 else ⟨#[]⟩),.string (if 3 < k then Lm.dgt r 3 else ⟨#[]⟩),.string (if 4 < k then Lm.dgt r 4 else ⟨#[]⟩),.string (if 5 < k then Lm.dgt r 5 else ⟨#[]⟩),.string (if 6 < k then Lm.dgt r 6 else ⟨#[]⟩),.string (if 7 < k then Lm.dgt r 7 else ⟨#[]⟩),.string (if 8 < k then Lm.dgt r 8 else ⟨#[]⟩),.string (if 9 < k then Lm.dgt r 9 else ⟨#[]⟩),.string (Lm.bs r.dec),.string (Lm.bs r.grp),.string (Lm.bs r.min)]
theorem arK_set (r:Lm.Rec) (k:Nat) (hk:k < 10):(arK r k).set k (.string (Lm.dgt r k)) = arK r (k + 1):=by
 match k,hk with
 | 0,_=>rfl
 | 1,_=>rfl
 | 2,_=>rfl
 | 3,_=>rfl
 | 4,_=>rfl
 | 5,_=>rfl
 | 6,_=>rfl
 | 7,_=>rfl
 | 8,_=>rfl
 | 9,_=>rfl
theorem arK_at (r:Lm.Rec) (k:Nat) (hk:k < 10):(arK r k)[k]? = some (.string ⟨#[]⟩):=by
 match k,hk with
 | 0,_=>rfl
 | 1,_=>rfl
 | 2,_=>rfl
 | 3,_=>rfl
 | 4,_=>rfl
 | 5,_=>rfl
 | 6,_=>rfl
 | 7,_=>rfl
 | 8,_=>rfl
 | 9,_=>rfl
@[reducible] def symV (r:Lm.Rec):Value:=.agg #[.string (Lm.dgt r 0),.string (Lm.dgt r 1),.string (Lm.dgt r 2),.string (Lm.dgt r 3),.string (Lm.dgt r 4),.string (Lm.dgt r 5),.string (Lm.dgt r 6),.string (Lm.dgt r 7),.string (Lm.dgt r 8),.string (Lm.dgt r 9),.string (Lm.bs r.dec),.string (Lm.bs r.grp),.string (Lm.bs r.min)]
theorem ret_ba {fn:Func} {p:Tmp} {T:TypeId} (h:fn.results = #[.cell p T]) {R:Ending -> World -> Prop} {a:Act} {w:World} {g:Nat} {l:List Value} {n:Nat} {e:TypeId}
  (hu:Tryz.prog.underlying T = some (.array n e)) (hi:(Tryz.prog.info? T).map (·.size) = some l.length)
  (hp:a.tmps.getD p undef = .pointer (some ⟨g,0,none⟩)) (hg:Bk w g T l) (hdf:a.defers = []) (hR:R (.returned (.agg l.toArray)) w):bodyPost Tryz.prog fn R .ret a w :=
 bodyPost_ret (results_cell_row h a.tmps w g T l.toArray (0,0) _ hp hg hu rfl (by simpa using hi)) hdf hR
theorem info13:(Tryz.prog.info? 123).map (·.size) = some 13:=by kernel_rfl
theorem symbolsOf_any (r:Lm.Rec) (w:World) (hl:r.sys.length <= 16) :
  Calls Tryz.prog 55 #[recV r] w fun e w'=>e = .returned (symV r) /\ Q w w':=by
 have HD:=Hd (fun (k:Nat) u=>Sy.digit_any (Lm.bs r.sys) (k:Int) u (by rw [Lm.bs_size];unfold maxLen;omega));rw [Lm.bs_list] at HD;have HDG:Hid (∀ k:Nat,Sm.dgS (Sm.nz r.sys) (k:Int) = Lm.dgt r k):=Hd (fun _=>rfl);have HSET:=Hd (arK_set r);have HAT:=Hd (arK_at r);have HE:Hid (arK r 10 = [.string (Lm.dgt r 0),.string (Lm.dgt r 1),.string (Lm.dgt r 2),.string (Lm.dgt r 3),.string (Lm.dgt r 4),.string (Lm.dgt r 5),.string (Lm.dgt r 6),.string (Lm.dgt r 7),.string (Lm.dgt r 8),.string (Lm.dgt r 9),.string (Lm.bs r.dec),.string (Lm.bs r.grp),.string (Lm.bs r.min)]):=Hd rfl;have HK0:Hid (arK r 0 = [.string ⟨#[]⟩,.string ⟨#[]⟩,.string ⟨#[]⟩,.string ⟨#[]⟩,.string ⟨#[]⟩,.string ⟨#[]⟩,.string ⟨#[]⟩,.string ⟨#[]⟩,.string ⟨#[]⟩,.string ⟨#[]⟩,.string (Lm.bs r.dec),.string (Lm.bs r.grp),.string (Lm.bs r.min)]):=Hd rfl;unfold recV symV;obtain ⟨d0,hd0⟩:∃ x,x = Lm.dgt r 0:=⟨_,rfl⟩;obtain ⟨d1,hd1⟩:∃ x,x = Lm.dgt r 1:=⟨_,rfl⟩;obtain ⟨d2,hd2⟩:∃ x,x = Lm.dgt r 2:=⟨_,rfl⟩;obtain ⟨d3,hd3⟩:∃ x,x = Lm.dgt r 3:=⟨_,rfl⟩;obtain ⟨d4,hd4⟩:∃ x,x = Lm.dgt r 4:=⟨_,rfl⟩;obtain ⟨d5,hd5⟩:∃ x,x = Lm.dgt r 5:=⟨_,rfl⟩;obtain ⟨d6,hd6⟩:∃ x,x = Lm.dgt r 6:=⟨_,rfl⟩;obtain ⟨d7,hd7⟩:∃ x,x = Lm.dgt r 7:=⟨_,rfl⟩;obtain ⟨d8,hd8⟩:∃ x,x = Lm.dgt r 8:=⟨_,rfl⟩;obtain ⟨d9,hd9⟩:∃ x,x = Lm.dgt r 9:=⟨_,rfl⟩;rw [<- hd0,<- hd1,<- hd2,<- hd3,<- hd4,<- hd5,<- hd6,<- hd7,<- hd8,<- hd9] at HE |-;generalize Lm.bs r.nam = s0 at *;generalize Lm.bs r.pat = s1 at *;generalize Lm.bs r.sys = s2 at *;generalize Lm.bs r.dec = s3 at *;generalize Lm.bs r.grp = s4 at *;generalize Lm.bs r.min = s5 at *;generalize Lm.bs r.per = s6 at *;generalize Lm.bs r.cur = s7 at *;generalize arK r = AR at *;generalize Lm.dgt r = DG at *;generalize Sm.nz r.sys = Z at *;clear hl hd0 hd1 hd2 hd3 hd4 hd5 hd6 hd7 hd8 hd9;obtain ⟨z,hz⟩:∃ z,z = ((w.alloc (.cells #[.string s0,.string s1,.string s2,.string s3,.string s4,.string s5,.string s6,.string s7] 84)).alloc (.cells #[.string ⟨#[]⟩,.string ⟨#[]⟩,.string ⟨#[]⟩,.string ⟨#[]⟩,.string ⟨#[]⟩,.string ⟨#[]⟩,.string ⟨#[]⟩,.string ⟨#[]⟩,.string ⟨#[]⟩,.string ⟨#[]⟩,.string ⟨#[]⟩,.string ⟨#[]⟩,.string ⟨#[]⟩] 123)).alloc (.cells #[.string ⟨#[]⟩,.string ⟨#[]⟩,.string ⟨#[]⟩,.string ⟨#[]⟩,.string ⟨#[]⟩,.string ⟨#[]⟩,.string ⟨#[]⟩,.string ⟨#[]⟩,.string ⟨#[]⟩,.string ⟨#[]⟩,.string s3,.string s4,.string s5] 123):=⟨_,rfl⟩;have HQZ:=Hd (show Q w z by rw [hz];exact (((Q.refl w).alloc _).alloc _).alloc _);have HB1:=Hd (show Bk z w.heap.size 84 [.string s0,.string s1,.string s2,.string s3,.string s4,.string s5,.string s6,.string s7] by rw [hz];exact ((Bk.new w _ _).q ((Q.refl _).alloc _)).q ((Q.refl _).alloc _));have HB2:=Hd (show Bk z (w.heap.size + 1) 123 [.string ⟨#[]⟩,.string ⟨#[]⟩,.string ⟨#[]⟩,.string ⟨#[]⟩,.string ⟨#[]⟩,.string ⟨#[]⟩,.string ⟨#[]⟩,.string ⟨#[]⟩,.string ⟨#[]⟩,.string ⟨#[]⟩,.string ⟨#[]⟩,.string ⟨#[]⟩,.string ⟨#[]⟩] by rw [hz,<- alloc_size w (.cells #[.string s0,.string s1,.string s2,.string s3,.string s4,.string s5,.string s6,.string s7] 84)];exact (Bk.new _ _ _).q ((Q.refl _).alloc _));have HB3:=Hd (show Bk z (w.heap.size + 1 + 1) 123 (AR 0) by rw [HK0.out,hz,<- alloc_size w (.cells #[.string s0,.string s1,.string s2,.string s3,.string s4,.string s5,.string s6,.string s7] 84),<- alloc_size (w.alloc (.cells #[.string s0,.string s1,.string s2,.string s3,.string s4,.string s5,.string s6,.string s7] 84)) (.cells #[.string ⟨#[]⟩,.string ⟨#[]⟩,.string ⟨#[]⟩,.string ⟨#[]⟩,.string ⟨#[]⟩,.string ⟨#[]⟩,.string ⟨#[]⟩,.string ⟨#[]⟩,.string ⟨#[]⟩,.string ⟨#[]⟩,.string ⟨#[]⟩,.string ⟨#[]⟩,.string ⟨#[]⟩] 123)];exact Bk.new _ _ _);go_enter Tryz.func55,Tryz.ntmps55
 go_wp2_with fail
 rw [<- hz];clear hz HK0;obtain ⟨B,hB⟩:∃ B,B = w.heap.size:=⟨_,rfl⟩;have HBW:=Hd (show w.heap.size <= B by omega);rw [<- hB] at HB1 HB2 HB3 |-;clear hB;obtain ⟨b2,hb2⟩:∃ b,b = B + 1:=⟨_,rfl⟩;obtain ⟨b3,hb3⟩:∃ b,b = B + 1 + 1:=⟨_,rfl⟩;have H2:=Hd (show w.heap.size <= b2 by have:=HBW.out;omega);have H3:=Hd (show w.heap.size <= b3 by have:=HBW.out;omega);have N31:=Hd (show b3 ≠ B by omega);have N32:=Hd (show b3 ≠ b2 by omega);rw [<- hb3] at HB3 |-;rw [<- hb2] at HB2 |-;clear hb2 hb3;go_loopw [12] (fun i wr=>∃ k:Nat,i = .int .i64 k /\ k <= 10 /\ Bk wr b3 123 (AR k) /\ Bk wr B 84 [.string s0,.string s1,.string s2,.string s3,.string s4,.string s5,.string s6,.string s7] /\ Bk wr b2 123 [.string ⟨#[]⟩,.string ⟨#[]⟩,.string ⟨#[]⟩,.string ⟨#[]⟩,.string ⟨#[]⟩,.string ⟨#[]⟩,.string ⟨#[]⟩,.string ⟨#[]⟩,.string ⟨#[]⟩,.string ⟨#[]⟩,.string ⟨#[]⟩,.string ⟨#[]⟩,.string ⟨#[]⟩] /\ Q w wr) (fun i _=>10 - (intOf i).toNat)
 case atStart=>exact ⟨0,rfl,by omega,HB3.out,HB1.out,HB2.out,HQZ.out⟩
 case round =>
  obtain ⟨k,rfl,hk,h3,h1,h2,hq⟩:=hrel;by_cases hlt:k < 10
  ·have hlti:(k:Int) < 10:=by omega
   have c2:=h1.cell 2 rfl;have hk0:¬ (k:Int) < 0:=by omega
   have hk13:(k:Int) < 13:=by omega
   have hk13n:k < 13:=by omega
   have HH3:=Hd h3;have HH1:=Hd h1;have HH2:=Hd h2;clear h1 h2 h3;go_wp2_with fail
   refine (HD.out k _).mono ?_;rintro e w1 ⟨rfl,hq1⟩;rw [HDG.out k];have hb3:=HH3.out.q hq1;have c3:=hb3.cell k (HAT.out k hlt);have f3:=hb3.free k;have HF3:=Hd (hb3.set k (.string (DG k)));have HF1:=Hd ((HH1.out.q hq1).past N31.out (i:=k) (.string (DG k)));have HF2:=Hd ((HH2.out.q hq1).past N32.out (i:=k) (.string (DG k)));have HFQ:=Hd (Q.setCell (hq.trans hq1) (ad:=⟨b3,k,none⟩) H3.out (.string (DG k)));rw [HSET.out k hlt] at HF3;clear hb3;go_wp2_with fail
   exact ⟨⟨k + 1,by go_num,by omega,HF3.out,HF1.out,HF2.out,HFQ.out⟩,by simp [intOf];omega⟩
  ·have hnlt:¬ (k:Int) < 10:=by omega
   obtain rfl:k = 10:=by omega
   rw [HE.out] at h3;have c0:=h3.cell 0 rfl;have p0:=h2.cell 0 rfl;have f0:=h2.free 0;have c1:=h3.cell 1 rfl;have p1:=h2.cell 1 rfl;have f1:=h2.free 1;have c2:=h3.cell 2 rfl;have p2:=h2.cell 2 rfl;have f2:=h2.free 2;have c3:=h3.cell 3 rfl;have p3:=h2.cell 3 rfl;have f3:=h2.free 3;have c4:=h3.cell 4 rfl;have p4:=h2.cell 4 rfl;have f4:=h2.free 4;have c5:=h3.cell 5 rfl;have p5:=h2.cell 5 rfl;have f5:=h2.free 5;have c6:=h3.cell 6 rfl;have p6:=h2.cell 6 rfl;have f6:=h2.free 6;have c7:=h3.cell 7 rfl;have p7:=h2.cell 7 rfl;have f7:=h2.free 7;have c8:=h3.cell 8 rfl;have p8:=h2.cell 8 rfl;have f8:=h2.free 8;have c9:=h3.cell 9 rfl;have p9:=h2.cell 9 rfl;have f9:=h2.free 9;have c10:=h3.cell 10 rfl;have p10:=h2.cell 10 rfl;have f10:=h2.free 10;have c11:=h3.cell 11 rfl;have p11:=h2.cell 11 rfl;have f11:=h2.free 11;have c12:=h3.cell 12 rfl;have p12:=h2.cell 12 rfl;have f12:=h2.free 12;have HFB:=Hd (((((((((((((h2.set 0 (.string d0)).set 1 (.string d1)).set 2 (.string d2)).set 3 (.string d3)).set 4 (.string d4)).set 5 (.string d5)).set 6 (.string d6)).set 7 (.string d7)).set 8 (.string d8)).set 9 (.string d9)).set 10 (.string s3)).set 11 (.string s4)).set 12 (.string s5));have HFQ:=Hd (Q.setCell (Q.setCell (Q.setCell (Q.setCell (Q.setCell (Q.setCell (Q.setCell (Q.setCell (Q.setCell (Q.setCell (Q.setCell (Q.setCell (Q.setCell hq (ad:=⟨b2,0,none⟩) H2.out (.string d0)) (ad:=⟨b2,1,none⟩) H2.out (.string d1)) (ad:=⟨b2,2,none⟩) H2.out (.string d2)) (ad:=⟨b2,3,none⟩) H2.out (.string d3)) (ad:=⟨b2,4,none⟩) H2.out (.string d4)) (ad:=⟨b2,5,none⟩) H2.out (.string d5)) (ad:=⟨b2,6,none⟩) H2.out (.string d6)) (ad:=⟨b2,7,none⟩) H2.out (.string d7)) (ad:=⟨b2,8,none⟩) H2.out (.string d8)) (ad:=⟨b2,9,none⟩) H2.out (.string d9)) (ad:=⟨b2,10,none⟩) H2.out (.string s3)) (ad:=⟨b2,11,none⟩) H2.out (.string s4)) (ad:=⟨b2,12,none⟩) H2.out (.string s5));clear h1 h2 h3;go_wp2_with fail
   refine ret_ba rfl Tryz.underlying123 (by exact info13) rfl HFB.out rfl ⟨?_,HFQ.out⟩;rfl
end Lo
end
section
open Go.RowKit
namespace Lo
open Um Cm Gm
def lookC (rb lp ep:Nat):List Value:=[.string ⟨#[110,97,109,101]⟩,
 .int .i64 2,
 .func (.func 89) #[] #[.pointer (some ⟨rb,0,none⟩)],
 .string ⟨#[112,97,116,116,101,114,110]⟩,
 .int .i64 0,
 .func (.func 91) #[] #[.pointer (some ⟨ep,0,none⟩)],
 .string ⟨#[112,97,116,116,101,114,110]⟩,
 .int .i64 5,
 .func (.func 92) #[] #[.pointer (some ⟨lp,0,none⟩)],
 .string ⟨#[115,121,115,116,101,109]⟩,
 .int .i64 7,
 .func (.func 94) #[] #[.pointer (some ⟨rb,0,none⟩)],
 .string ⟨#[100,101,99,105,109,97,108]⟩,
 .int .i64 2,
 .func (.func 96) #[] #[.pointer (some ⟨rb,0,none⟩)],
 .string ⟨#[103,114,111,117,112]⟩,
 .int .i64 2,
 .func (.func 98) #[] #[.pointer (some ⟨lp,0,none⟩)],
 .string ⟨#[109,105,110,117,115]⟩,
 .int .i64 2,
 .func (.func 100) #[] #[.pointer (some ⟨rb,0,none⟩)],
 .string ⟨#[112,101,114,99,101,110,116]⟩,
 .int .i64 2,
 .func (.func 101) #[] #[.pointer (some ⟨lp,0,none⟩),.pointer (some ⟨rb,0,none⟩)],
 .string ⟨#[99,117,114,114,101,110,99,121]⟩,
 .int .i64 2,
 .func (.func 103) #[] #[.pointer (some ⟨lp,0,none⟩),.pointer (some ⟨rb,0,none⟩)],
 .string ⟨#[97,102,102,105,120]⟩,
 .int .i64 2,
 .func (.func 104) #[] #[.pointer (some ⟨lp,0,none⟩)],
 .string ⟨#[97,102,102,105,120]⟩,
 .int .i64 3,
 .func (.func 108) #[] #[.pointer (some ⟨lp,0,none⟩)],
 .string ⟨#[100,101,99,105,109,97,108]⟩,
 .int .i64 6,
 .func (.func 110) #[] #[.pointer (some ⟨lp,0,none⟩)],
 .string ⟨#[103,114,111,117,112]⟩,
 .int .i64 6,
 .func (.func 112) #[] #[.pointer (some ⟨lp,0,none⟩)],
 .string ⟨#[109,105,110,117,115]⟩,
 .int .i64 6,
 .func (.func 113) #[] #[.pointer (some ⟨lp,0,none⟩)],
 .string ⟨#[97,102,102,105,120]⟩,
 .int .i64 6,
 .func (.func 114) #[] #[.pointer (some ⟨lp,0,none⟩)]]
theorem looks_any (g:Nat) (r:Lm.Rec) (X:Pt.Pat) (a b c d cl:Value) (w:World) (hB:LB w g r X a b c d cl) :
  Calls Tryz.prog 56 #[.pointer (some ⟨g,0,none⟩),.int .i64 0] w fun e w'=>∃ G rb lp ep,e = .returned (.slice (some ⟨G,0,none⟩) 15 15) /\ Bk w' G 130 (lookC rb lp ep) /\ EnvL w' g rb lp ep r X a b c d cl /\ Q w w':=by
 have HB:=Hd hB;have hB2:=hB.q (((Q.refl w).alloc (.cells #[.pointer (some ⟨g,0,none⟩)] 27)).alloc (.cells #[.int .i64 0] 40));have c0:=hB2.1.cell 0 rfl;have c1:=hB2.1.cell 1 rfl;have c2:=hB2.1.cell 2 rfl;have c3:=hB2.1.cell 3 rfl;have c4:=hB2.1.cell 4 rfl;have c5:=hB2.1.cell 5 rfl;have c6:=hB2.1.cell 6 rfl;have c7:=hB2.1.cell 7 rfl;have HRC:Hid (∀ W:World,Bk (W.alloc (.cells #[.string (Lm.bs r.nam),.string (Lm.bs r.pat),.string (Lm.bs r.sys),.string (Lm.bs r.dec),.string (Lm.bs r.grp),.string (Lm.bs r.min),.string (Lm.bs r.per),.string (Lm.bs r.cur)] 84)) W.heap.size 84 (recC r)):=Hd (fun W=>Bk.new W _ _);obtain ⟨s0,hs0⟩:∃ x,x = Lm.bs r.nam:=⟨_,rfl⟩;obtain ⟨s1,hs1⟩:∃ x,x = Lm.bs r.pat:=⟨_,rfl⟩;obtain ⟨s2,hs2⟩:∃ x,x = Lm.bs r.sys:=⟨_,rfl⟩;obtain ⟨s3,hs3⟩:∃ x,x = Lm.bs r.dec:=⟨_,rfl⟩;obtain ⟨s4,hs4⟩:∃ x,x = Lm.bs r.grp:=⟨_,rfl⟩;obtain ⟨s5,hs5⟩:∃ x,x = Lm.bs r.min:=⟨_,rfl⟩;obtain ⟨s6,hs6⟩:∃ x,x = Lm.bs r.per:=⟨_,rfl⟩;obtain ⟨s7,hs7⟩:∃ x,x = Lm.bs r.cur:=⟨_,rfl⟩;rw [<- hs0,<- hs1,<- hs2,<- hs3,<- hs4,<- hs5,<- hs6,<- hs7] at HRC;rw [<- hs0] at c0;rw [<- hs1] at c1;rw [<- hs2] at c2;rw [<- hs3] at c3;rw [<- hs4] at c4;rw [<- hs5] at c5;rw [<- hs6] at c6;rw [<- hs7] at c7;clear hB hB2 hs0 hs1 hs2 hs3 hs4 hs5 hs6 hs7;go_enter Tryz.func56,Tryz.ntmps56
 go_wp2_with fail
 go_ret
 have e1:=alloc_size w (.cells #[.pointer (some ⟨g,0,none⟩)] 27);have e2:=alloc_size (w.alloc (.cells #[.pointer (some ⟨g,0,none⟩)] 27)) (.cells #[.int .i64 0] 40);have e3:=alloc_size ((w.alloc (.cells #[.pointer (some ⟨g,0,none⟩)] 27)).alloc (.cells #[.int .i64 0] 40)) (.cells #[.string s0,.string s1,.string s2,.string s3,.string s4,.string s5,.string s6,.string s7] 84);rw [e1] at e2;rw [e2] at e3;have hG:=Bk.new (((w.alloc (.cells #[.pointer (some ⟨g,0,none⟩)] 27)).alloc (.cells #[.int .i64 0] 40)).alloc (.cells #[.string s0,.string s1,.string s2,.string s3,.string s4,.string s5,.string s6,.string s7] 84)) 130 (lookC (w.heap.size + 1 + 1) w.heap.size (w.heap.size + 1));have hR:=(HRC.out ((w.alloc (.cells #[.pointer (some ⟨g,0,none⟩)] 27)).alloc (.cells #[.int .i64 0] 40)));have hP:=Bk.new (w.alloc (.cells #[.pointer (some ⟨g,0,none⟩)] 27)) 40 [.int .i64 0];have hL:=Bk.new w 27 [.pointer (some ⟨g,0,none⟩)];rw [e3] at hG;rw [e2] at hR;rw [e1] at hP;clear e1 e2 e3;refine ⟨w.heap.size + 1 + 1 + 1,w.heap.size + 1 + 1,w.heap.size,w.heap.size + 1,rfl,hG,⟨HB.out.q (((((Q.refl w).alloc _).alloc _).alloc _).alloc _),hR.q ((Q.refl _).alloc _),((hL.q ((Q.refl _).alloc _)).q ((Q.refl _).alloc _)).q ((Q.refl _).alloc _),(hP.q ((Q.refl _).alloc _)).q ((Q.refl _).alloc _)⟩,((((Q.refl w).alloc _).alloc _).alloc _).alloc _⟩
end Lo
end
end Go.Proofs.YtdjhkbholijnmaaGreatDoor
