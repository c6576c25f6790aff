/- The law's own lives: the document's example. (and more) -/
import Derived.Test.YtnehhbobhnmbcaaR39
set_option linter.all false
set_option maxRecDepth 100000
set_option maxHeartbeats 8000000
namespace Go.Proofs.Ytnehhbobhnmbcaa
section
open Go.RowKit
namespace El
open Ed Tm
open Re hiding ret_st may_any way_any sel_any tog_any mov_any ins_any word_right word_left
theorem ex_e:(ers ⟨⟨false,[1,2],true,[5]⟩,2,2⟩ ⟨9,9,false⟩ 2).2 = 0 /\ (ers ⟨⟨false,[1,2],true,[5]⟩,2,2⟩ ⟨9,9,false⟩ 2).1.d.g = false /\ (ers ⟨⟨false,[1,2],true,[5]⟩,2,2⟩ ⟨9,9,false⟩ 2).1.d.i = [] /\ (ers ⟨⟨false,[1,2],true,[5]⟩,2,2⟩ ⟨9,9,false⟩ 2).1.d.s = true /\ (ers ⟨⟨false,[1,2],true,[5]⟩,2,2⟩ ⟨9,9,false⟩ 2).1.d.f = [5] /\ (ers ⟨⟨false,[1,2],true,[5]⟩,2,2⟩ ⟨9,9,false⟩ 2).1.c = 0 /\ (ers ⟨⟨false,[1,2],true,[5]⟩,2,2⟩ ⟨9,9,false⟩ 2).1.a = 0:=by decide +kernel
theorem ex_n:(ins ⟨⟨false,[1,2],true,[5]⟩,1,1⟩ ⟨9,9,false⟩ [9]).2 = 0 /\ (ins ⟨⟨false,[1,2],true,[5]⟩,1,1⟩ ⟨9,9,false⟩ [9]).1.d.g = false /\ (ins ⟨⟨false,[1,2],true,[5]⟩,1,1⟩ ⟨9,9,false⟩ [9]).1.d.i = [1,9,2] /\ (ins ⟨⟨false,[1,2],true,[5]⟩,1,1⟩ ⟨9,9,false⟩ [9]).1.d.s = true /\ (ins ⟨⟨false,[1,2],true,[5]⟩,1,1⟩ ⟨9,9,false⟩ [9]).1.d.f = [5] /\ (ins ⟨⟨false,[1,2],true,[5]⟩,1,1⟩ ⟨9,9,false⟩ [9]).1.c = 2 /\ (ins ⟨⟨false,[1,2],true,[5]⟩,1,1⟩ ⟨9,9,false⟩ [9]).1.a = 2:=by decide +kernel
theorem ex_t1:txt false true (Dm.txtB []) (Dm.txtB [5]) = ⟨#[46,53]⟩:=by decide +kernel
theorem ex_t2:txt false true (Dm.txtB [1,9,2]) (Dm.txtB [5]) = ⟨#[49,57,50,46,53]⟩:=by decide +kernel
theorem okD5:Dm.okD [5]:=by intro d hd;simp at hd;omega
theorem okD192:Dm.okD [1,9,2]:=by intro d hd;simp at hd;omega
theorem live_erase (w:World):Calls Try.prog 20 #[.agg #[.bool false,.slice (some ⟨w.heap.size,0,none⟩) 2 2,.bool true,.slice (some ⟨w.heap.size + 1,0,none⟩) 1 1,.int .i64 2,.int .i64 2],.agg #[.int .i64 9,.int .i64 9,.bool false],.int .i64 2] ((w.alloc (.cells #[.int .i64 1,.int .i64 2] 3)).alloc (.cells #[.int .i64 5] 3))
  fun e w'=>∃ a1 c1 a2 c2,e = .returned (.tuple #[.agg #[.bool false,.slice a1 0 c1,.bool true,.slice a2 1 c2,.int .i64 0,.int .i64 0],.int .i64 0]) /\ Lst w' (.slice a1 0 c1) [] /\ Lst w' (.slice a2 1 c2) [5] /\ Q w w':=by
 obtain ⟨h1,h2⟩:=Dw.lits w [1,2] [5] 2 1 rfl rfl (by unfold maxLen;omega) (by unfold maxLen;omega);have h:=Pe.ers_any false true _ _ 2 1 2 1 [1,2] [5] 2 2 9 9 false 2 _ h1 h2 rfl rfl (by omega) (by omega);obtain ⟨e0,e1,e2,e3,e4,e5,e6⟩:=ex_e;refine Calls.mono h ?_;rintro e w' ⟨x,rfl,⟨a1,c1,a2,c2,rfl,ho1,ho2⟩,hq⟩;rw [e2] at ho1;rw [e4] at ho2;exact ⟨a1,c1,a2,c2,by rw [e0,e1,e2,e3,e4,e5,e6];rfl,ho1.lst,ho2.lst,(((Q.refl w).alloc _).alloc _).trans hq⟩
theorem live_insert (w:World):Calls Try.prog 32 #[.agg #[.bool false,.slice (some ⟨w.heap.size,0,none⟩) 2 2,.bool true,.slice (some ⟨w.heap.size + 1,0,none⟩) 1 1,.int .i64 1,.int .i64 1],.agg #[.int .i64 9,.int .i64 9,.bool false],.slice (some ⟨w.heap.size + 2,0,none⟩) 1 1] (((w.alloc (.cells #[.int .i64 1,.int .i64 2] 3)).alloc (.cells #[.int .i64 5] 3)).alloc (.cells #[.int .i64 9] 3))
  fun e w'=>∃ a1 c1 a2 c2,e = .returned (.tuple #[.agg #[.bool false,.slice a1 3 c1,.bool true,.slice a2 1 c2,.int .i64 2,.int .i64 2],.int .i64 0]) /\ Lst w' (.slice a1 3 c1) [1,9,2] /\ Lst w' (.slice a2 1 c2) [5] /\ Q w w':=by
 obtain ⟨h1,h2⟩:=Dw.lits w [1,2] [5] 2 1 rfl rfl (by unfold maxLen;omega) (by unfold maxLen;omega);have h3:=Lst.made ((w.alloc (.cells #[.int .i64 1,.int .i64 2] 3)).alloc (.cells #[.int .i64 5] 3)) [9] 1 rfl (by unfold maxLen;omega);have hq3:Q ((w.alloc (.cells #[.int .i64 1,.int .i64 2] 3)).alloc (.cells #[.int .i64 5] 3)) (((w.alloc (.cells #[.int .i64 1,.int .i64 2] 3)).alloc (.cells #[.int .i64 5] 3)).alloc (.cells #[.int .i64 9] 3)):=(Q.refl _).alloc _;have hsz:((w.alloc (.cells #[.int .i64 1,.int .i64 2] 3)).alloc (.cells #[.int .i64 5] 3)).heap.size = w.heap.size + 2:=by simp
 rw [hsz] at h3;have h:=Pe.ins_any false true _ _ 2 1 2 1 [1,2] [5] 1 1 9 9 false _ [9] _ (h1.q hq3) (h2.q hq3) rfl rfl (by omega) (by omega) h3 (by simp);obtain ⟨e0,e1,e2,e3,e4,e5,e6⟩:=ex_n;refine Calls.mono h ?_;rintro e w' ⟨x,rfl,⟨a1,c1,a2,c2,rfl,ho1,ho2⟩,hq⟩;rw [e2] at ho1;rw [e4] at ho2;exact ⟨a1,c1,a2,c2,by rw [e0,e1,e2,e3,e4,e5,e6];rfl,ho1.lst,ho2.lst,((((Q.refl w).alloc _).alloc _).alloc _).trans hq⟩
theorem live_t1 (u:World) (a1 a2:Option Addr) (c1 c2:Nat) (h1:Lst u (.slice a1 0 c1) []) (h2:Lst u (.slice a2 1 c2) [5]) :
  Calls Try.prog 40 #[.agg #[.bool false,.slice a1 0 c1,.bool true,.slice a2 1 c2]] u fun e w'=>e = .returned (.string ⟨#[46,53]⟩) /\ Q u w':=by
 have h:=Tp.text_any false true a1 a2 0 1 c1 c2 [] [5] u h1 h2 rfl rfl (by omega) (by omega) Dm.okD_nil okD5;rw [ex_t1] at h;exact h
theorem live_t2 (u:World) (a1 a2:Option Addr) (c1 c2:Nat) (h1:Lst u (.slice a1 3 c1) [1,9,2]) (h2:Lst u (.slice a2 1 c2) [5]) :
  Calls Try.prog 40 #[.agg #[.bool false,.slice a1 3 c1,.bool true,.slice a2 1 c2]] u fun e w'=>e = .returned (.string ⟨#[49,57,50,46,53]⟩) /\ Q u w':=by
 have h:=Tp.text_any false true a1 a2 3 1 c1 c2 [1,9,2] [5] u h1 h2 rfl rfl (by omega) (by omega) okD192 okD5;rw [ex_t2] at h;exact h
theorem lives_any (w:World):Calls Try.prog 19 #[] w fun e w'=>e = .returned (.bool true) /\ Q w w':=by
 have HS:=Hd (live_erase w);have HN:=Hd live_insert;have HT1:=Hd live_t1;have HT2:=Hd live_t2;go_enter Try.func19,Try.ntmps19
 go_wp2_with fail
 refine HS.out.mono ?_;rintro e u0 ⟨a1,c1,a2,c2,rfl,hl1,hl2,hq⟩;have HL1:=Hd hl1;have HL2:=Hd hl2;have HQ:=Hd hq;clear hl1 hl2 hq HS;obtain ⟨u1,hwu1⟩:∃ z,z = u0.alloc (.cells #[.bool false,.slice a1 0 c1,.bool true,.slice a2 1 c2,.int .i64 0,.int .i64 0] 39):=⟨_,rfl⟩;have hq:Q u0 u1:=by rw [hwu1];exact (Q.refl _).alloc _
 have HXB:=Hd (show Bk u1 u0.heap.size 39 [.bool false,.slice a1 0 c1,.bool true,.slice a2 1 c2,.int .i64 0,.int .i64 0] by rw [hwu1];exact Bk.new _ _ _);obtain ⟨bX,hbbX⟩:∃ k,k = u0.heap.size:=⟨_,rfl⟩;rw [<- hbbX] at HXB;replace HL1:=Hd (Lst.q HL1.out hq);replace HL2:=Hd (Lst.q HL2.out hq);replace HQ:=Hd (Q.trans HQ.out hq);clear hq;go_upto_region 2 with fail
 rw [<- hwu1,<- hbbX];clear hwu1 hbbX;go_wp2_with fail
 refine (HN.out _).mono ?_;rintro e u2 ⟨b1,d1,b2,d2,rfl,hl1,hl2,hq⟩;have HM1:=Hd hl1;have HM2:=Hd hl2;clear hl1 hl2;replace HL1:=Hd (Lst.q HL1.out hq);replace HL2:=Hd (Lst.q HL2.out hq);replace HQ:=Hd (Q.trans HQ.out hq);replace HXB:=Hd (Bk.q HXB.out hq);clear hq;obtain ⟨u3,hwu3⟩:∃ z,z = u2.alloc (.cells #[.bool false,.slice b1 3 d1,.bool true,.slice b2 1 d2,.int .i64 2,.int .i64 2] 39):=⟨_,rfl⟩;have hq:Q u2 u3:=by rw [hwu3];exact (Q.refl _).alloc _
 have HYB:=Hd (show Bk u3 u2.heap.size 39 [.bool false,.slice b1 3 d1,.bool true,.slice b2 1 d2,.int .i64 2,.int .i64 2] by rw [hwu3];exact Bk.new _ _ _);obtain ⟨bY,hbbY⟩:∃ k,k = u2.heap.size:=⟨_,rfl⟩;rw [<- hbbY] at HYB;replace HL1:=Hd (Lst.q HL1.out hq);replace HL2:=Hd (Lst.q HL2.out hq);replace HQ:=Hd (Q.trans HQ.out hq);replace HXB:=Hd (Bk.q HXB.out hq);replace HM1:=Hd (Lst.q HM1.out hq);replace HM2:=Hd (Lst.q HM2.out hq);clear hq;go_upto_region 3 with fail
 rw [<- hwu3,<- hbbY];clear hwu3 hbbY;have xHXB0:=HXB.out.cell 0 rfl;have xHXB1:=HXB.out.cell 1 rfl;have xHXB2:=HXB.out.cell 2 rfl;have xHXB3:=HXB.out.cell 3 rfl;have xHXB4:=HXB.out.cell 4 rfl;have xHXB5:=HXB.out.cell 5 rfl;go_wp2_with fail
 refine (HT1.out _ _ _ _ _ HL1.out HL2.out).mono ?_;rintro e u4 ⟨rfl,hq⟩;replace HL1:=Hd (Lst.q HL1.out hq);replace HL2:=Hd (Lst.q HL2.out hq);replace HQ:=Hd (Q.trans HQ.out hq);replace HXB:=Hd (Bk.q HXB.out hq);replace HM1:=Hd (Lst.q HM1.out hq);replace HM2:=Hd (Lst.q HM2.out hq);replace HYB:=Hd (Bk.q HYB.out hq);clear hq;clear xHXB0 xHXB1 xHXB2 xHXB3 xHXB4 xHXB5;have xHXB4:=HXB.out.cell 4 rfl;have xHXB5:=HXB.out.cell 5 rfl;have xHYB0:=HYB.out.cell 0 rfl;have xHYB1:=HYB.out.cell 1 rfl;have xHYB2:=HYB.out.cell 2 rfl;have xHYB3:=HYB.out.cell 3 rfl;have xHYB4:=HYB.out.cell 4 rfl;have xHYB5:=HYB.out.cell 5 rfl;go_wp2_with fail
 refine (HT2.out _ _ _ _ _ HM1.out HM2.out).mono ?_;rintro e u5 ⟨rfl,hq⟩;replace HL1:=Hd (Lst.q HL1.out hq);replace HL2:=Hd (Lst.q HL2.out hq);replace HQ:=Hd (Q.trans HQ.out hq);replace HXB:=Hd (Bk.q HXB.out hq);replace HM1:=Hd (Lst.q HM1.out hq);replace HM2:=Hd (Lst.q HM2.out hq);replace HYB:=Hd (Bk.q HYB.out hq);clear hq;clear xHXB4 xHXB5;clear xHYB0 xHYB1 xHYB2 xHYB3 xHYB4 xHYB5;have xHYB4:=HYB.out.cell 4 rfl;have xHYB5:=HYB.out.cell 5 rfl;go_wp2_with fail
 go_ret
 exact ⟨rfl,HQ.out⟩
end El
end
end Go.Proofs.Ytnehhbobhnmbcaa
