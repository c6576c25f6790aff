/- The program's strict: a text's number, its items, it by another locale. (and more) -/
import Derived.Test.YtdjhkbholijnmaaGreatDoorR43
set_option linter.all false
set_option maxRecDepth 100000
set_option maxHeartbeats 8000000
namespace Go.Proofs.YtdjhkbholijnmaaGreatDoor
section
open Go.RowKit
namespace Sp
open Um Cm Gm Im Lo Sx Tm
def shI (b:Bool) (l:List E):List E:=if b = true then l else []
def shB (b:Bool) (t:ByteArray):ByteArray:=if b = true then t else ⟨#[]⟩
theorem items_any (g:Nat) (r:Lm.Rec) (X:Pt.Pat) (a b c d cl:Value) (s:ByteArray) (w:World) (hok:It.LOk r X) (hB:LB w g r X a b c d cl) (hs:s.size <= 5000) :
  Calls Tryz.prog 27 #[.pointer (some ⟨g,0,none⟩),.string s] w fun e w'=>∃ v,e = .returned (.tuple #[v,.int .i64 (cdS (isS r X s))]) /\ LstI w' v (shI (isS r X s) (itd r X (rd r X s))) /\ Q w w':=by
 have HP:=Hd (fun u (q:Q w u)=>parse_any g r X a b c d cl s u hok (hB.q q) (by omega));have HIT:=Hd (fun u (q:Q w u) Dg Di Ds Df e1 e2 n1 n2 f1 f2 (hi:Lst u (.slice e1 n1 f1) Di) (hf:Lst u (.slice e2 n2 f2) Df) (k1:Di.length = n1) (k2:Df.length = n2) (l1:n1 <= 5000) (l2:n2 <= 5000) (hm:may ⟨Dg,Di,Ds,Df⟩ = true)=>It.items_big g r X a b c d cl Dg Ds e1 e2 n1 n2 f1 f2 Di Df u hok.ok (hB.q q) hi hf k1 k2 (by omega) (by omega) (may_dig hm).1 (may_dig hm).2.1);clear hok hB;have HZ:Hid (shI false (itd r X (rd r X s)) = []):=Hd rfl;have HO:Hid (shI true (itd r X (rd r X s)) = itd r X (rd r X s)):=Hd rfl;go_enter Tryz.func27,Tryz.ntmps27
 go_wp2_with fail
 refine (HP.out _ (Q.refl _)).mono ?_;rintro e w1 ⟨x,rfl,hld,hq1⟩;obtain ⟨a1,c1,a2,c2,rfl,ho1,ho2⟩:=hld;obtain ⟨D,hDD⟩:∃ D,D = rd r X s:=⟨_,rfl⟩;rw [<- hDD] at ho1 ho2 |-;have HDE:=Hd hDD.symm;have hlen:=rd_len r X s;have hmay:=rd_may r X s;rw [<- hDD] at hlen hmay;have HLN:=Hd hlen;have HMY:=Hd hmay;clear hDD hlen hmay;obtain ⟨Dg,Di,Ds,Df⟩:=D;dsimp only at ho1 ho2 HLN |-;obtain ⟨n1,hn1⟩:∃ n,n = Di.length:=⟨_,rfl⟩;obtain ⟨n2,hn2⟩:∃ n,n = Df.length:=⟨_,rfl⟩;rw [<- hn1] at ho1 HLN |-;rw [<- hn2] at ho2 HLN |-;have HN1:=Hd hn1.symm;have HN2:=Hd hn2.symm;obtain ⟨w2,hw2⟩:∃ u,u = w1.alloc (.cells #[.bool Dg,.slice a1 n1 c1,.bool Ds,.slice a2 n2 c2] 39):=⟨_,rfl⟩;have hq2:Q w1 w2:=by rw [hw2];exact (Q.refl _).alloc _
 have HB2:=Hd (show Bk w2 w1.heap.size 39 [.bool Dg,.slice a1 n1 c1,.bool Ds,.slice a2 n2 c2] by rw [hw2];exact Bk.new _ _ _);have HQ2:=Hd ((hq1.trans hq2));have HO1:=Hd (ho1.q hq2);have HO2:=Hd (ho2.q hq2);obtain ⟨b2,hb2⟩:∃ b,b = w1.heap.size:=⟨_,rfl⟩;rw [<- hb2] at HB2;clear ho1 ho2 hq1 hq2 hn1 hn2;obtain ⟨I,hI⟩:∃ b,b = isS r X s:=⟨_,rfl⟩;rw [<- hI];have HI:=Hd hI.symm;clear hI;have hcs:cdS I = if I = true then 0 else 2:=rfl
 have HII:=Hd (HIT.out w2 HQ2.out Dg Di Ds Df a1 a2 n1 n2 c1 c2 HO1.out.lst HO2.out.lst HN1.out HN2.out (by have:=HLN.out;omega) (by have:=HLN.out;omega) HMY.out);clear hcs HIT;go_upto_region 2 with fail
 rw [<- hw2,<- hb2];clear hw2 hb2;cases I
 ·have hcd:cdS false = 2:=rfl
  rw [hcd];go_wp2_with fail
  go_ret2
  rw [HI.out,HZ.out];exact ⟨_,rfl,LstI.nil _ _ _ (by unfold maxLen;omega) (fun _=>rfl),HQ2.out⟩
 ·have hcd:cdS true = 0:=rfl
  rw [hcd];go_wp2_with (refine wpList_load_row (by rfl) 39 _ (by rfl) b2 (by rfl) 39 #[.bool Dg,.slice a1 n1 c1,.bool Ds,.slice a2 n2 c2] (0,0) _ HB2.out Tryz.underlying39 rfl (by exact infoDr) ?_)
  refine HII.out.mono ?_;rintro e w3 ⟨v,rfl,hov,hq3⟩;have HE:=Hd (show itd r X (rd r X s) = itm r X.pr X.se ⟨Dg,Di,Ds,Df⟩ (parP r (Ro.ahd Dg X)) (parP r (Ro.bhd Dg X)) from by rw [HDE.out];rfl);have HV:=Hd hov.lst;rw [<- HE.out] at HV;obtain ⟨va,vc,rfl⟩:=hov.shape;have HQ3:=Hd (HQ2.out.trans hq3);clear hov hq3 HE;go_wp2_with fail
  go_ret2
  rw [HI.out,HO.out];exact ⟨_,rfl,HV.out,HQ3.out⟩
theorem switch_any (g:Nat) (r:Lm.Rec) (X:Pt.Pat) (a b c d cl:Value) (g':Nat) (r':Lm.Rec) (X':Pt.Pat) (a' b' c' d' cl':Value) (s:ByteArray) (w:World) (hok:It.LOk r X) (hB:LB w g r X a b c d cl) (hok':It.LOk r' X') (hB':LB w g' r' X' a' b' c' d' cl') (hs:s.size <= 5000) :
  Calls Tryz.prog 26 #[.pointer (some ⟨g,0,none⟩),.pointer (some ⟨g',0,none⟩),.string s] w fun e w'=>e = .returned (.tuple #[.string (shB (isS r X s) (tx r' X' (rd r X s))),.int .i64 (cdS (isS r X s))]) /\ Q w w':=by
 have HP:=Hd (fun u (q:Q w u)=>parse_any g r X a b c d cl s u hok (hB.q q) (by omega));have HIT:=Hd (fun u (q:Q w u) Dg Di Ds Df e1 e2 n1 n2 f1 f2 (hi:Lst u (.slice e1 n1 f1) Di) (hf:Lst u (.slice e2 n2 f2) Df) (k1:Di.length = n1) (k2:Df.length = n2) (l1:n1 <= 5000) (l2:n2 <= 5000) (hm:may ⟨Dg,Di,Ds,Df⟩ = true)=>It.items_big g' r' X' a' b' c' d' cl' Dg Ds e1 e2 n1 n2 f1 f2 Di Df u hok'.ok (hB'.q q) hi hf k1 k2 (by omega) (by omega) (may_dig hm).1 (may_dig hm).2.1);have HSM:=Hd (fun (D:T) (hm:may D = true) (l1:D.i.length <= 5000) (l2:D.f.length <= 5000)=>itd_small hok' hm l1 l2);clear hok hB hok' hB';have HZ:Hid (shB false (tx r' X' (rd r X s)) = ⟨#[]⟩):=Hd rfl;have HO:Hid (shB true (tx r' X' (rd r X s)) = ⟨(txI (itd r' X' (rd r X s))).toArray⟩):=Hd rfl;go_enter Tryz.func26,Tryz.ntmps26
 go_wp2_with fail
 refine (HP.out _ (Q.refl _)).mono ?_;rintro e w1 ⟨x,rfl,hld,hq1⟩;obtain ⟨a1,c1,a2,c2,rfl,ho1,ho2⟩:=hld;obtain ⟨D,hDD⟩:∃ D,D = rd r X s:=⟨_,rfl⟩;rw [<- hDD] at ho1 ho2 |-;have HDE:=Hd hDD.symm;have hlen:=rd_len r X s;have hmay:=rd_may r X s;rw [<- hDD] at hlen hmay;have HLN:=Hd hlen;have HMY:=Hd hmay;clear hDD hlen hmay;obtain ⟨Dg,Di,Ds,Df⟩:=D;dsimp only at ho1 ho2 HLN |-;obtain ⟨n1,hn1⟩:∃ n,n = Di.length:=⟨_,rfl⟩;obtain ⟨n2,hn2⟩:∃ n,n = Df.length:=⟨_,rfl⟩;rw [<- hn1] at ho1 HLN |-;rw [<- hn2] at ho2 HLN |-;have HN1:=Hd hn1.symm;have HN2:=Hd hn2.symm;obtain ⟨w2,hw2⟩:∃ u,u = w1.alloc (.cells #[.bool Dg,.slice a1 n1 c1,.bool Ds,.slice a2 n2 c2] 39):=⟨_,rfl⟩;have hq2:Q w1 w2:=by rw [hw2];exact (Q.refl _).alloc _
 have HB2:=Hd (show Bk w2 w1.heap.size 39 [.bool Dg,.slice a1 n1 c1,.bool Ds,.slice a2 n2 c2] by rw [hw2];exact Bk.new _ _ _);have HQ2:=Hd ((hq1.trans hq2));have HO1:=Hd (ho1.q hq2);have HO2:=Hd (ho2.q hq2);obtain ⟨b2,hb2⟩:∃ b,b = w1.heap.size:=⟨_,rfl⟩;rw [<- hb2] at HB2;clear ho1 ho2 hq1 hq2 hn1 hn2;obtain ⟨I,hI⟩:∃ b,b = isS r X s:=⟨_,rfl⟩;rw [<- hI];have HI:=Hd hI.symm;clear hI;have HII:=Hd (HIT.out w2 HQ2.out Dg Di Ds Df a1 a2 n1 n2 c1 c2 HO1.out.lst HO2.out.lst HN1.out HN2.out (by have:=HLN.out;omega) (by have:=HLN.out;omega) HMY.out);have HSZ:=Hd (HSM.out ⟨Dg,Di,Ds,Df⟩ HMY.out (by dsimp only;rw [HN1.out];have:=HLN.out;omega) (by dsimp only;rw [HN2.out];have:=HLN.out;omega));clear HIT HSM;go_upto_region 2 with fail
 rw [<- hw2,<- hb2];clear hw2 hb2;cases I
 ·have hcd:cdS false = 2:=rfl
  rw [hcd];go_wp2_with fail
  go_ret2
  rw [HI.out,HZ.out];exact ⟨rfl,HQ2.out⟩
 ·have hcd:cdS true = 0:=rfl
  rw [hcd];go_wp2_with (refine wpList_load_row (by rfl) 39 _ (by rfl) b2 (by rfl) 39 #[.bool Dg,.slice a1 n1 c1,.bool Ds,.slice a2 n2 c2] (0,0) _ HB2.out Tryz.underlying39 rfl (by exact infoDr) ?_)
  refine HII.out.mono ?_;rintro e w3 ⟨v,rfl,hov,hq3⟩;have HE:=Hd (show itd r' X' (rd r X s) = itm r' X'.pr X'.se ⟨Dg,Di,Ds,Df⟩ (parP r' (Ro.ahd Dg X')) (parP r' (Ro.bhd Dg X')) from by rw [HDE.out];rfl);have HV:=Hd hov.lst;rw [<- HE.out] at HV;rw [<- HDE.out] at HSZ;obtain ⟨va,vc,rfl⟩:=hov.shape;have HQ3:=Hd (HQ2.out.trans hq3);clear hov hq3 HE;go_wp2_with fail
  refine (It.text_any _ _ w3 HV.out (by have:=HSZ.out.1;omega) HSZ.out.2).mono ?_;rintro e w4 ⟨rfl,hq4⟩;have HQ4:=Hd (HQ3.out.trans hq4);clear hq4;go_wp2_with fail
  go_ret2
  rw [HI.out,HO.out];exact ⟨rfl,HQ4.out⟩
end Sp
end
end Go.Proofs.YtdjhkbholijnmaaGreatDoor
