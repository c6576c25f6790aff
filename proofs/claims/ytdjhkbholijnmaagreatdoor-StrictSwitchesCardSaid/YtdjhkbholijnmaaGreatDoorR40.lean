/- The document's own items of a draft. (and more) -/
import Derived.Test.YtdjhkbholijnmaaGreatDoorR39
set_option linter.all false
set_option maxRecDepth 100000
set_option maxHeartbeats 8000000
namespace Go.Proofs.YtdjhkbholijnmaaGreatDoor
section
open Go.RowKit
namespace It
open Um Im Lo Ro
theorem rdigit_ok {r:Lm.Rec} (h:0 <= Sm.nz r.sys) (x:Int) (h0:0 <= x) (h9:x <= 9) (u:World):Calls Tryz.prog 42 #[.string (Lm.bs r.sys),.int .i64 x] u fun e w'=>e = .returned (.string (Lm.dgt r x.toNat)) /\ Q u w':=by
 have h1:=Sr.digit_any (Lm.bs r.sys) x u h0 h9;rw [Lm.bs_list] at h1;rw [Ro.dgt_enc h x.toNat (by omega),show ((x.toNat:Nat):Int) = x from by omega];exact h1
theorem ritems_big (r:Lm.Rec) (X:Pt.Pat) (a b c d:Value) (g s:Bool) (e1 e2:Option Addr) (m1 m2 f1 f2:Nat) (I F:List Int) (w:World) (hO:Lm.Ok r X) (hL:Ro.LL w X a b c d) (hi:Lst w (.slice e1 m1 f1) I) (hf:Lst w (.slice e2 m2 f2) F) (k1:I.length = m1) (k2:F.length = m2) (l1:m1 <= 10000) (l2:m2 <= 10000) (hm:Tm.may ⟨g,I,s,F⟩ = true) (x1:X.pr <= 1000) (x2:X.se <= 1000) :
  Calls Tryz.prog 22 #[lV r X a b c d,.agg #[.bool g,.slice e1 m1 f1,.bool s,.slice e2 m2 f2]] w fun e w'=>∃ x,e = .returned x /\ OwnI 64 w' w.heap.size x (itm r X.pr X.se ⟨g,I,s,F⟩ (parP r (Ro.ahd g X)) (parP r (Ro.bhd g X))) /\ Q w w':=by
 have HAR:=Hd (fun u (q:Q w u)=>raround_any g r X a b c d u hO (hL.q q));have HPA:=Hd (fun u (q:Q w u) v l (hv:Pb.LstP u v l) (hl:l.length <= 100000)=>rparts_any r X a b c d v l u (hL.q q) hv hl);have hpf:=Ro.around_fact hO g;have HAT:=Hd (fun u (q:Q w u)=>Tr.atoms_any g s e1 e2 m1 m2 f1 f2 I F u (hi.q q) (hf.q q) k1 k2 (by omega) (by omega));have HIT:=Hd (show itm r X.pr X.se ⟨g,I,s,F⟩ (parP r (Ro.ahd g X)) (parP r (Ro.bhd g X)) = affI r (parP r (Ro.ahd g X)) ++ rowI r X.pr X.se (m1:Int) (Tm.ats ⟨g,I,s,F⟩) (Tm.ats ⟨g,I,s,F⟩).length ++ affI r (parP r (Ro.bhd g X)) by
  rw [itm_mid,<- row_all r X.pr X.se _ hm,k1])
 have hla:(Tm.ats ⟨g,I,s,F⟩).length = m1 + (Tm.sep s).length + m2:=by rw [Tm.ats_len];dsimp only;rw [k1,k2]
 have hsl:=Tm.sep_len s;have hE:I ++ Tm.sep s ++ F = Tm.ats ⟨g,I,s,F⟩:=rfl;rw [hE] at HAT;have hoa:=Tm.okA_ats hm;have hsy:=hO.sys;have HDG:=Hd (fun x (h0:0 <= x) (h9:x <= 9) u=>rdigit_ok (r:=r) hsy x h0 h9 u);have HEN:=Hd (fun l u (l0:-1000000 <= l) (l1:l <= 1000000)=>It.rends_any l X.pr X.se u l0 l1 (by omega) (by omega));have HRS:=Hd (fun k=>rowI_succ r X.pr X.se (m1:Int) (Tm.ats ⟨g,I,s,F⟩) k);have HRZ:=Hd (rowI_zero r X.pr X.se (m1:Int) (Tm.ats ⟨g,I,s,F⟩));have HRL:=Hd (fun k=>rowI_len r X.pr X.se (m1:Int) (Tm.ats ⟨g,I,s,F⟩) k);have HST:=Hd (show ∀ k,stpI r X.pr X.se (m1:Int) (Tm.ats ⟨g,I,s,F⟩) k = if (Tm.ats ⟨g,I,s,F⟩).getD k 0 = 10 then [(4,Lm.bs r.dec,(k:Int))] else dgE r ((Tm.ats ⟨g,I,s,F⟩).getD k 0) k :: (if endB ((m1:Int) - 1 - k) X.pr X.se = true then [(3,Lm.bs r.grp,-1)] else []) from fun _=>rfl)
 have HOA:=Hd (show ∀ k,k < (Tm.ats ⟨g,I,s,F⟩).length -> 0 <= (Tm.ats ⟨g,I,s,F⟩).getD k 0 /\ (Tm.ats ⟨g,I,s,F⟩).getD k 0 <= 10 from fun k hk=>by
  rw [List.getD_eq_getElem?_getD,List.getElem?_eq_getElem hk];exact (Tm.okA_iff _).1 hoa _ (List.getElem_mem hk))
 have HAL:=Hd (affI_len r (parP r (Ro.ahd g X)));obtain ⟨N,hN⟩:∃ N,N = m1 + (Tm.sep s).length + m2:=⟨_,rfl⟩;have hNb:N <= 20001:=by omega
 rw [<- hN] at hla HAT;rw [hla] at HIT HOA;have HLA:=Hd hla;clear hN hsl hE hoa hsy hla hm hi hf k1 k2 x1 x2;generalize Tm.ats ⟨g,I,s,F⟩ = L at *;obtain ⟨RES,hRES⟩:∃ y,y = itm r X.pr X.se ⟨g,I,s,F⟩ (parP r (Ro.ahd g X)) (parP r (Ro.bhd g X)):=⟨_,rfl⟩;rw [<- hRES] at HIT |-;clear hRES;generalize parP r (Ro.ahd g X) = P1 at *;generalize parP r (Ro.bhd g X) = P2 at *;have hp1:=hpf.2.2.1;have hp2:=hpf.2.2.2;have HP1:=Hd hp1;have HP2:=Hd hp2;clear hpf;obtain ⟨a1,a2,rfl⟩:=hL.1.shape;obtain ⟨b1,b2,rfl⟩:=hL.2.1.shape;obtain ⟨c1,c2,rfl⟩:=hL.2.2.1.shape;obtain ⟨d1,d2,rfl⟩:=hL.2.2.2.shape;clear hL hO hp1 hp2;unfold lV at *;generalize X.pre.length = n1 at *;generalize X.suf.length = n2 at *;generalize X.npre.length = n3 at *;generalize X.nsuf.length = n4 at *;generalize rowI r X.pr X.se (m1:Int) L = RW at *;generalize stpI r X.pr X.se (m1:Int) L = SW at *;generalize X.pr = p0 at *;generalize X.se = p1 at *;generalize X.mi = p2 at *;generalize X.mf = p3 at *;generalize X.xf = p4 at *;generalize Lm.bs r.nam = s0 at *;generalize Lm.bs r.pat = s1 at *;generalize Lm.bs r.sys = s2 at *;generalize Lm.bs r.dec = s3 at *;generalize Lm.bs r.grp = s4 at *;generalize Lm.bs r.min = s5 at *;generalize Lm.bs r.per = s6 at *;generalize Lm.bs r.cur = s7 at *;obtain ⟨A1,hA1⟩:∃ y,y = affI r P1:=⟨_,rfl⟩;obtain ⟨A2,hA2⟩:∃ y,y = affI r P2:=⟨_,rfl⟩;rw [<- hA1,<- hA2] at HIT;rw [<- hA1] at HAL;have HAE:=Hd hA1.symm;have HA2:=Hd hA2.symm;clear hA1 hA2;obtain ⟨y,hy⟩:∃ y,y = w.alloc (.cells #[.string s0,.string s1,.string s2,.string s3,.string s4,.string s5,.string s6,.string s7,.slice a1 n1 a2,.slice b1 n2 b2,.slice c1 n3 c2,.slice d1 n4 d2,.int .i64 p0,.int .i64 p1,.int .i64 p2,.int .i64 p3,.int .i64 p4] 34):=⟨_,rfl⟩;have hqy:Q w y:=by rw [hy];exact (Q.refl w).alloc _
 have hby:Bk y w.heap.size 34 [.string s0,.string s1,.string s2,.string s3,.string s4,.string s5,.string s6,.string s7,.slice a1 n1 a2,.slice b1 n2 b2,.slice c1 n3 c2,.slice d1 n4 d2,.int .i64 p0,.int .i64 p1,.int .i64 p2,.int .i64 p3,.int .i64 p4]:=by rw [hy];exact Bk.new _ _ _
 obtain ⟨z,hz⟩:∃ z,z = y.alloc (.cells #[.bool g,.slice e1 m1 f1,.bool s,.slice e2 m2 f2] 26):=⟨_,rfl⟩;have hqz:Q y z:=by rw [hz];exact (Q.refl y).alloc _
 have HQZ:=Hd (hqy.trans hqz);have HBZ:=Hd (hby.q hqz);have hdz:Bk z y.heap.size 26 [.bool g,.slice e1 m1 f1,.bool s,.slice e2 m2 f2]:=by rw [hz];exact Bk.new _ _ _
 have hsy:y.heap.size = w.heap.size + 1:=by rw [hy];simp
 rw [hsy] at hdz;have HDZ:=Hd hdz;have hz2:z = (w.alloc (.cells #[.string s0,.string s1,.string s2,.string s3,.string s4,.string s5,.string s6,.string s7,.slice a1 n1 a2,.slice b1 n2 b2,.slice c1 n3 c2,.slice d1 n4 d2,.int .i64 p0,.int .i64 p1,.int .i64 p2,.int .i64 p3,.int .i64 p4] 34)).alloc (.cells #[.bool g,.slice e1 m1 f1,.bool s,.slice e2 m2 f2] 26):=by rw [hz,hy]
 clear hqy hby hqz hdz hsy hz hy;go_enter Tryz.func22,Tryz.ntmps22
 go_upto_region 1 with fail
 rw [<- hz2];clear hz2;obtain ⟨bz,hbz⟩:∃ b,b = w.heap.size:=⟨_,rfl⟩;obtain ⟨bd,hbd⟩:∃ b,b = w.heap.size + 1:=⟨_,rfl⟩;rw [<- hbz] at HBZ;rw [<- hbd] at HDZ;rw [<- hbd,<- hbz];clear hbz hbd;have x0:=HDZ.out.cell 0 rfl;go_wp2_with (refine wpList_load_row (by rfl) 34 _ (by rfl) bz (by rfl) 34 #[.string s0,.string s1,.string s2,.string s3,.string s4,.string s5,.string s6,.string s7,.slice a1 n1 a2,.slice b1 n2 b2,.slice c1 n3 c2,.slice d1 n4 d2,.int .i64 p0,.int .i64 p1,.int .i64 p2,.int .i64 p3,.int .i64 p4] (0,0) _ HBZ.out Tryz.underlying34 rfl (by exact infoL) ?_)
 refine (HAR.out _ HQZ.out).mono ?_;rintro e w1 ⟨q1,q2,rfl,hu1,hu2,hq1⟩;obtain ⟨qa,qc,rfl,_,_⟩:=hu1.shape2;obtain ⟨qb,qd,rfl,_,_⟩:=hu2.shape2;have HU1:=Hd hu1;have HU2:=Hd hu2;have HQ1:=Hd (HQZ.out.trans hq1);have HBZ1:=Hd (HBZ.out.q hq1);have HDZ1:=Hd (HDZ.out.q hq1);have HQZ1:=Hd hq1;clear hu1 hu2 hq1 x0;have hpp1:=HP1.out;have hpp2:=HP2.out;go_wp2_with (refine wpList_load_row (by rfl) 34 _ (by rfl) bz (by rfl) 34 #[.string s0,.string s1,.string s2,.string s3,.string s4,.string s5,.string s6,.string s7,.slice a1 n1 a2,.slice b1 n2 b2,.slice c1 n3 c2,.slice d1 n4 d2,.int .i64 p0,.int .i64 p1,.int .i64 p2,.int .i64 p3,.int .i64 p4] (0,0) _ HBZ1.out Tryz.underlying34 rfl (by exact infoL) ?_)
 refine (HPA.out _ HQ1.out _ _ HU1.out (by omega)).mono ?_;rintro e w2 ⟨qx,rfl,hx2,hq2⟩;rw [HAE.out] at hx2;have HX2:=Hd hx2;have HQ2:=Hd (HQ1.out.trans hq2);have HQ12:=Hd hq2;have HQZ2:=Hd (HQZ1.out.trans hq2);have HDZ2:=Hd (HDZ1.out.q hq2);obtain ⟨M1,hM1⟩:∃ m,m = w1.heap.size:=⟨_,rfl⟩;rw [<- hM1] at hx2;have HM1:=Hd hM1;have HZM1:=Hd (show z.heap.size <= M1 by rw [hM1];exact HQZ1.out.le);have HXB:=Hd hx2;obtain ⟨xa,xc,rfl⟩:=hx2.shape;clear hx2 hq2 hM1 HU1;have d0:=HDZ2.out.cell 0 rfl;have d1:=HDZ2.out.cell 1 rfl;have d2:=HDZ2.out.cell 2 rfl;have d3:=HDZ2.out.cell 3 rfl;go_wp2_with fail
 refine (HAT.out _ HQ2.out).mono ?_;rintro e w3 ⟨ta,tc,rfl,ht3,hq3⟩;clear d0 d1 d2 d3;obtain ⟨M2,hM2⟩:∃ m,m = w2.heap.size:=⟨_,rfl⟩;have HM23:=Hd (show M2 + 0 <= w3.heap.size by rw [hM2];exact hq3.le);rw [<- hM2] at ht3;have HQ3:=Hd (HQ2.out.trans hq3);have HQ23:=Hd hq3;have HQZ3:=Hd (HQZ2.out.trans hq3);have HZM:=Hd (show M1 <= w3.heap.size by rw [HM1.out];exact Nat.le_trans HQ12.out.le HQ23.out.le);have HX3:=Hd (HXB.out.q hq3);have HXR:=Hd (show ∀ j,(Value.slice xa (A1.length) xc).ownBlock = some j -> j < M2 \/ w3.heap.size <= j from fun j h=>.inl (by rw [hM2];exact (HX2.out.lt j h).2));have HTV:=Hd (fun u (q:Gap M1 M2 w3 u) k (h:k < N)=>((ht3.gap q (fun j hj=>.inr (by have:=(ht3.lt j hj).1;omega))).lst).cellOf HLA.out h);have htc:=ht3.lst.form0 HLA.out;obtain ⟨_,_,hv,htn,htm⟩:=htc;cases hv;have HBG:=Hd (fun u (q:Gap M1 M2 w3 u)=>bk_gap (HBZ.out.q HQZ3.out) q (.inl (Nat.lt_of_lt_of_le HBZ.out.lt HZM1.out)));have HDG2:=Hd (fun u (q:Gap M1 M2 w3 u)=>bk_gap (HDZ.out.q HQZ3.out) q (.inl (Nat.lt_of_lt_of_le HDZ.out.lt HZM1.out)));unfold maxLen at htm;clear ht3 hq3 hM2 HBZ1 HDZ1 HDZ2 HQ1 HQ2 HQZ1 HQZ2 HX2 HXB;go_wp2_with fail
 go_loopw [7,9] (fun x i wr=>∃ k:Nat,i = .int .i64 k /\ k <= N /\ OwnI 64 wr M1 x (A1 ++ RW k) /\ Gap M1 M2 w3 wr /\ (∀ j,x.ownBlock = some j -> j < M2 \/ w3.heap.size <= j)) (fun _ i _=>N - (intOf i).toNat)
 case atStart=>exact ⟨0,rfl,by omega,by rw [HRZ.out,List.append_nil];exact HX3.out,Gap.refl _ _ _,HXR.out⟩
 case round =>
  obtain ⟨k,rfl,hk,ho,hgp,hrow⟩:=hrel;have hrl:=HRL.out k;have hol:=ho.lst;have HG:=Hd hgp;have HROW:=Hd hrow;obtain ⟨ol,hol2⟩:∃ n,n = (A1 ++ RW k).length:=⟨_,rfl⟩;have hob:ol <= 100000:=by rw [hol2,List.length_append,HAL.out];have:=HP1.out;omega
  obtain ⟨oa,oc,rfl,_,_⟩:=hol.form0 hol2.symm;have HOL:=Hd hol2;have HO:=Hd ho;have hle:M1 <= wr.heap.size:=Nat.le_trans HZM.out hgp.size;clear hol hol2 ho hrl hrow;by_cases hlt:k < N
  ·obtain ⟨gg,off,cap,hvv,hg,hnc,hcm,c1'⟩:=HTV.out wr hgp k hlt
   cases hvv;have hbd:=HOA.out k hlt;have HSK:=Hd (HST.out k);have HRK:=Hd (HRS.out k);have HEK:=Hd (fun u=>HEN.out ((m1:Int) - 1 - k) u (by omega) (by omega));have HCX:=Hd (show ∀ u,Gap M1 M2 w3 u -> u.cell? ⟨gg,off + k,none⟩ = some (.int .i64 (L.getD k 0)) from fun u hu=>by
    obtain ⟨_,_,_,h1,_,_,_,h2⟩:=HTV.out u hu k hlt;cases h1;exact h2)
   generalize L.getD k 0 = x at *;have HBR:=Hd (HBG.out _ hgp);clear hgp;by_cases h10:x = 10
   ·subst h10
    have HK2:=Hd (show A1 ++ RW (k + 1) = (A1 ++ RW k) ++ [(4,s3,(k:Int))] by rw [HRK.out,HSK.out,if_pos rfl,List.append_assoc]);have l3:=HBR.out.cell 3 rfl;clear HSK HRK;go_wp2_with (at_builtin;refine Im.push elR HO.out rfl _ _ rfl 4 s3 (k:Int) (by rfl) (by rfl) (by rw [<- HOL.out];omega) hle ?_)
    intro v' w5 ho5 hg5 hat5;have HG5:=Hd (Gap_grow HG.out hg5 (fun j h=>by have h1:=(HO.out.lt j h).1;have h2:=HROW.out j h;omega));have HRW5:=Hd (show ∀ j,v'.ownBlock = some j -> j < M2 \/ w3.heap.size <= j from fun j h=>by
     rcases hat5 with hat | hat
     ·exact HROW.out j (hat ▸ h)
     ·rw [hat] at h;have h1:=Option.some.inj h;have h2:=Gap.size HG.out;omega)
    have HO5:=Hd (show OwnI 64 w5 M1 v' (A1 ++ RW (k + 1)) by rw [HK2.out];simpa [List.append_assoc] using ho5);clear ho5 hg5 hat5 l3 c1';go_wp2_with fail
    exact ⟨⟨k + 1,by go_num,by omega,HO5.out,HG5.out,HRW5.out⟩,by simp [intOf];omega⟩
   ·have h10b:(x == 10) = false:=by rw [beq_eq_false_iff_ne];exact h10
    have HDX:=Hd (fun u=>HDG.out x hbd.1 (by omega) u);have HDE:=Hd (show dgE r x (k:Int) = (2,Lm.dgt r x.toNat,(k:Int)) from rfl);rw [HDE.out] at HSK;generalize Lm.dgt r x.toNat = D at *;clear HDE;have OWN:=HO;go_upto_region 9 with fail
    clear c1';refine wp_region_held_drew (S:=fun u=>Gap M1 M2 w3 u) (by kernel_rfl) (by exact HG.out.trans ((Q.refl wr).drew.gap _ _)) (fun hHeld=>?_);have hS:Gap M1 M2 w3 wr.drew:=hHeld;clear hHeld;have hq:Q wr wr.drew:=(Q.refl _).drew;have OWN:=Hd (OWN.out.q hq);clear hq;generalize wr.drew = yR1x0 at *;change wpAnyH _ _ _ _ _ _ #[ff,ff,ff,ff,ff,ff,ff,ff,ff,ff,ff,ff,ff,ff] _ _;refine tk 0 (by simp only [gA,gB,gC];rfl) (by first | kernel_rfl | rfl) (fun uz _=>by go_simp;try with_reducible rfl) pq hS ?_;try simp only [Act.put,sA,sB,sC]
    refine tk 1 (by simp only [gA,gB,gC];rfl) (by first | kernel_rfl | rfl) (fun uz _=>by go_simp;try with_reducible rfl) pq hS ?_;try simp only [Act.put,sA,sB,sC]
    refine tk 2 (by simp only [gA,gB,gC];rfl) (by first | kernel_rfl | rfl) (fun uz _=>by go_simp;try with_reducible rfl) pq hS ?_;try simp only [Act.put,sA,sB,sC]
    refine tk 3 (by simp only [gA,gB,gC];rfl) (by first | kernel_rfl | rfl) (fun uz hSw=>by (try dsimp only at hSw);have q:=(HBG.out _ hSw).cell 2 rfl;go_simp;try with_reducible rfl) pq hS ?_;try simp only [Act.put,sA,sB,sC]
    refine tk 4 (by simp only [gA,gB,gC];rfl) (by first | kernel_rfl | rfl) (fun uz _=>by go_simp;try with_reducible rfl) pq hS ?_;try simp only [Act.put,sA,sB,sC]
    refine tk 5 (by simp only [gA,gB,gC];rfl) (by first | kernel_rfl | rfl) (fun uz _=>by go_simp;try with_reducible rfl) pq hS ?_;try simp only [Act.put,sA,sB,sC]
    refine tk 6 (by simp only [gA,gB,gC];rfl) (by first | kernel_rfl | rfl) (fun uz _=>by go_simp;try with_reducible rfl) pq hS ?_;try simp only [Act.put,sA,sB,sC]
    refine tk 7 (by simp only [gA,gB,gC];rfl) (by first | kernel_rfl | rfl) (fun uz hSw=>by (try dsimp only at hSw);have q:=HCX.out _ hSw;go_simp;try with_reducible rfl) pq hS ?_;try simp only [Act.put,sA,sB,sC]
    refine tk 9 (by simp only [gA,gB,gC];rfl) (by first | kernel_rfl | rfl) (fun uz _=>by go_simp;try with_reducible rfl) pq hS ?_;try simp only [Act.put,sA,sB,sC]
    refine wpAnyH_ready (rs:=[8]) (by kernel_rfl) (by simp) ?_;refine ar (by (try simp only [gA,gB,gC]);rfl) fun K hK=>?_;go_simp
    refine (HDX.out _).mono ?_;rintro e yR1x10 ⟨rfl,hq⟩;try (go_wp2_with fail)
    have OWN:=Hd (OWN.out.q hq);have hS2:=Gap.trans hS (Q.gap hq _ _);refine hK.out _ _ (by exact hS2) (fun hHeld=>?_);clear hK K hHeld hS hq;have hS:=hS2;clear hS2;try simp only [Act.put,sA,sB,sC]
    refine tk 10 (by simp only [gA,gB,gC];rfl) (by first | kernel_rfl | rfl) (fun uz _=>by go_simp;try with_reducible rfl) pq hS ?_;try simp only [Act.put,sA,sB,sC]
    refine wpAnyH_ready (rs:=[11]) (by kernel_rfl) (by simp) ?_;refine ar (by (try simp only [gA,gB,gC]);rfl) fun K hK=>?_;go_simp
    have hq:=(Q.refl yR1x10).alloc (.cells #[.int .i64 2,.string D,.int .i64 (k:Int)] 64);have HBX:=Hd (Bk.new yR1x10 64 [.int .i64 2,.string D,.int .i64 (k:Int)]);have HW_bX:=Hd (Gap.size hS);have OWN:=Hd (OWN.out.q hq);have hS2:=Gap.trans hS (Q.gap hq _ _);refine hK.out _ _ (by exact hS2) (fun hHeld=>?_);clear hK K hHeld hS hq;have hS:=hS2;clear hS2;generalize yR1x10.alloc (.cells #[.int .i64 2,.string D,.int .i64 (k:Int)] 64) = yR1x12 at *;generalize yR1x10.heap.size = bX at *;try simp only [Act.put,sA,sB,sC]
    refine wpAnyH_ready (rs:=[12]) (by kernel_rfl) (by simp) ?_;refine ar (by (try simp only [gA,gB,gC]);rfl) fun K hK=>?_;refine Im.pushR elR OWN.out (by rfl) _ _ (by rfl) 2 D (k:Int) (by rfl) (by rfl) (HBX.out.cell 0 rfl) (HBX.out.cell 1 rfl) (HBX.out.cell 2 rfl) (by rw [<- HOL.out];omega) (Nat.le_trans HZM.out (Gap.size hS)) ?_;intro v' yR1x13 ho hg hat;have hS2:=Gap_grow hS hg (fun j h=>by have h1:=(OWN.out.lt j h).1;have h2:=HROW.out j h;omega);have HRW2:=Hd (show ∀ j,v'.ownBlock = some j -> j < M2 \/ w3.heap.size <= j from fun j h=>by
     rcases hat with hat | hat
     ·exact HROW.out j (hat ▸ h)
     ·rw [hat] at h;have h1:=Option.some.inj h;have h2:=Gap.size hS;omega)
    have HO6:=Hd ho;clear ho hg hat;refine hK.out _ _ (by exact hS2) (fun hHeld=>?_);clear hK K hHeld hS;have hS:=hS2;clear hS2;try simp only [Act.put,sA,sB,sC]
    refine tk 13 (by simp only [gA,gB,gC];rfl) (by first | kernel_rfl | rfl) (fun uz _=>by go_simp;try with_reducible rfl) pq hS ?_;try simp only [Act.put,sA,sB,sC]
    refine wpAnyH_done (by kernel_rfl) ?_ _;have HG6:=Hd hS;clear hS;have hle6:M1 <= yR1x13.heap.size:=Nat.le_trans HZM.out (Gap.size HG6.out);cases heb:endB ((m1:Int) - 1 - k) p0 p1
    ·have HK2:=Hd (show A1 ++ RW (k + 1) = (A1 ++ RW k) ++ [(2,D,(k:Int))] by rw [HRK.out,HSK.out,if_neg h10,heb,List.append_assoc];rfl)
     have HB6:=Hd (HBG.out _ HG6.out);have HD6:=Hd (HDG2.out _ HG6.out);have q12:=HB6.out.cell 12 rfl;have q13:=HB6.out.cell 13 rfl;have q1:=HD6.out.cell 1 rfl;go_wp2_with fail
     refine (HEK.out _).mono ?_;rw [heb];rintro e w7 ⟨rfl,rfl⟩;clear heb q12 q13 q1;have HO7:=Hd (show OwnI 64 yR1x13 M1 v' (A1 ++ RW (k + 1)) by rw [HK2.out];exact HO6.out);go_wp2_with fail
     exact ⟨⟨k + 1,by go_num,by omega,HO7.out,HG6.out,HRW2.out⟩,by simp [intOf];omega⟩
    ·have HK2:=Hd (show A1 ++ RW (k + 1) = (A1 ++ RW k) ++ [(2,D,(k:Int))] ++ [(3,s4,-1)] by rw [HRK.out,HSK.out,if_neg h10,heb,List.append_assoc,List.append_assoc];rfl)
     have HB6:=Hd (HBG.out _ HG6.out);have HD6:=Hd (HDG2.out _ HG6.out);have q12:=HB6.out.cell 12 rfl;have q13:=HB6.out.cell 13 rfl;have q4:=HB6.out.cell 4 rfl;have q1:=HD6.out.cell 1 rfl;go_wp2_with fail
     refine (HEK.out _).mono ?_;rw [heb];rintro e w7 ⟨rfl,rfl⟩;clear heb q12 q13 q1;go_wp2_with (at_builtin;refine Im.push elR HO6.out rfl _ _ rfl 3 s4 (-1) (by rfl) (by rfl) (by rw [List.length_append,<- HOL.out];simp;omega) hle6 ?_)
     intro v8 w8 ho8 hg8 hat8;have HO8:=Hd (show OwnI 64 w8 M1 v8 (A1 ++ RW (k + 1)) by rw [HK2.out];simpa [List.append_assoc] using ho8);have HG8:=Hd (Gap_grow HG6.out hg8 (fun j h=>by have h1:=(HO6.out.lt j h).1;have h2:=HRW2.out j h;omega));have HRW8:=Hd (show ∀ j,v8.ownBlock = some j -> j < M2 \/ w3.heap.size <= j from fun j h=>by
      rcases hat8 with hat | hat
      ·exact HRW2.out j (hat ▸ h)
      ·rw [hat] at h;have h1:=Option.some.inj h;have h2:=Gap.size HG6.out;omega)
     clear ho8 hg8 hat8 q4;go_wp2_with fail
     exact ⟨⟨k + 1,by go_num,by omega,HO8.out,HG8.out,HRW8.out⟩,by simp [intOf];omega⟩
  ·obtain rfl:k = N:=by omega
   have HZR:=Hd (gap_q2 HQZ3.out HZM1.out HG.out);have HQR:=Hd (HQZ.out.trans HZR.out);have HBR:=Hd (HBG.out _ hgp);have HU2R:=Hd (show Pb.LstP wr (Value.slice qb (P2.length) qd) P2 from HU2.out.q (gap_q2 (HQ12.out.trans HQ23.out) (Nat.le_of_eq HM1.out.symm) hgp));clear hgp;go_wp2_with (refine wpList_load_row (by rfl) 34 _ (by rfl) bz (by rfl) 34 #[.string s0,.string s1,.string s2,.string s3,.string s4,.string s5,.string s6,.string s7,.slice a1 n1 a2,.slice b1 n2 b2,.slice c1 n3 c2,.slice d1 n4 d2,.int .i64 p0,.int .i64 p1,.int .i64 p2,.int .i64 p3,.int .i64 p4] (0,0) _ HBR.out Tryz.underlying34 rfl (by exact infoL) ?_)
   refine (HPA.out _ HQR.out _ _ HU2R.out (by omega)).mono ?_;rintro e w9 ⟨q9,rfl,hx9,hq9⟩;rw [HA2.out] at hx9;have HX9:=Hd hx9.lst;have HO9:=Hd (HO.out.q hq9);have HZ9:=Hd (HZR.out.trans hq9);have hle9:M1 <= w9.heap.size:=Nat.le_trans hle hq9.le;obtain ⟨ya,yc,rfl⟩:=hx9.shape;have HA2L:=Hd (show A2.length = P2.length by rw [<- HA2.out,affI_len]);clear hx9 hq9;go_wp2_with (at_builtin;refine Im.pushl elR HO9.out HX9.out rfl _ _ rfl (by rfl) (by rfl) (by rw [<- HOL.out,HA2L.out];omega) hle9 ?_)
   intro v8 w8 ho8 hg8 hat8;have HO8:=Hd (show OwnI 64 w8 w.heap.size v8 RES by rw [HIT.out];have h9:=ho8.mono (Nat.le_trans HQZ.out.le HZM1.out);simpa [List.append_assoc] using h9);have HQ8:=Hd (HQZ.out.trans (HZ9.out.grown hg8 (fun j h=>Nat.le_trans HZM1.out (HO9.out.lt j h).1)));clear ho8 hg8 hat8;go_wp2_with fail
   go_ret
   exact ⟨_,rfl,HO8.out,HQ8.out⟩
end It
end
section
open Go.RowKit
namespace It
open Um Im Lo
theorem digit_ok (g0:Nat) (r:Lm.Rec) (X:Pt.Pat) (a b c d cl:Value) (x:Int) (w:World) (hB:LB w g0 r X a b c d cl) (h0:0 <= x) (h9:x <= 9) :
  Calls Tryz.prog 80 #[.pointer (some ⟨g0,0,none⟩),.int .i64 x] w fun e w'=>e = .returned (.string (Lm.dgt r x.toNat)) /\ Q w w':=by
 have h:=digit_in g0 r X a b c d cl x.toNat w hB (by omega);rwa [show ((x.toNat:Nat):Int) = x from by omega] at h
theorem whole_any (g0:Nat) (r:Lm.Rec) (X:Pt.Pat) (a b c d cl:Value) (g s:Bool) (e1 e2:Option Addr) (m1 m2 f1 f2:Nat) (I F:List Int) (w:World) (hB:LB w g0 r X a b c d cl) (hi:Lst w (.slice e1 m1 f1) I) (k1:I.length = m1) (l1:m1 <= 10000) (hI:Dm.okD I) (hc2:f2 <= maxLen) (hn2:m2 <= f2) :
  Calls Tryz.prog 49 #[.pointer (some ⟨g0,0,none⟩),.agg #[.bool g,.slice e1 m1 f1,.bool s,.slice e2 m2 f2]] w fun e w'=>∃ x,e = .returned x /\ OwnI 75 w' w.heap.size x (whI r X.pr X.se I I.length) /\ Q w w':=by
 have HV:=Hd (fun u (q:Q w u) k (h:k < m1)=>(hi.q q).cellOf k1 h);have hr:=fun u (q:Q w u)=>Ro.record_any g0 r X a b c d cl u (hB.q q);unfold recV at hr;have HR:=Hd hr;have HSZ:=Hd (fun u (q:Q w u)=>sizes_any g0 r X a b c d cl u (hB.q q));have HDG:=Hd (fun x (h0:0 <= x) (h9:x <= 9) u (q:Q w u)=>digit_ok g0 r X a b c d cl x u (hB.q q) h0 h9);have HEN:=Hd (fun l u (l0:-9223372036854775808 <= l) (l1:l <= 9223372036854775807)=>It.ends_any l X.pr X.se u l0 l1);have HDX:=Hd (digit_at hI);have hws:=whI_succ r X.pr X.se I;rw [k1] at hws;have HWS:=Hd hws;have HWL:=Hd (whI_len r X.pr X.se I);have HWZ:=Hd (whI_zero r X.pr X.se I);have HGR:=Hd (show ∀ l,grpI r l X.pr X.se = if endB l X.pr X.se = true then [(3,Lm.bs r.grp,-1)] else [] from fun _=>rfl)
 have HDE:=Hd (show ∀ x i,dgE r x i = (2,Lm.dgt r x.toNat,i) from fun _ _=>rfl);have HF:=Hd (fun u=>fldG u (Lm.bs r.nam) (Lm.bs r.pat) (Lm.bs r.sys) (Lm.bs r.dec) (Lm.bs r.grp) (Lm.bs r.min) (Lm.bs r.per) (Lm.bs r.cur));have hic:=hi.form0 k1;obtain ⟨_,_,hv,hnc,hcm⟩:=hic;cases hv;rw [k1];unfold maxLen at hcm hc2;clear hr hws hB hi k1 hI;generalize whI r X.pr X.se I = WI at *;generalize X.pr = p0 at *;generalize X.se = p1 at *;generalize Lm.bs r.nam = s0 at *;generalize Lm.bs r.pat = s1 at *;generalize Lm.bs r.sys = s2 at *;generalize Lm.bs r.dec = s3 at *;generalize Lm.bs r.grp = s4 at *;generalize Lm.bs r.min = s5 at *;generalize Lm.bs r.per = s6 at *;generalize Lm.bs r.cur = s7 at *;obtain ⟨z,hz⟩:∃ z,z = w.alloc (.cells #[.bool g,.slice e1 m1 f1,.bool s,.slice e2 m2 f2] 39):=⟨_,rfl⟩;have HQZ:=Hd (show Q w z by rw [hz];exact (Q.refl w).alloc _);have HDZ:=Hd (show Bk z w.heap.size 39 [.bool g,.slice e1 m1 f1,.bool s,.slice e2 m2 f2] by rw [hz];exact Bk.new _ _ _);go_enter Tryz.func49,Tryz.ntmps49
 go_upto_region 1 with fail
 rw [<- hz];clear hz;obtain ⟨bd,hbd⟩:∃ b,b = w.heap.size:=⟨_,rfl⟩;rw [<- hbd] at HDZ |-;clear hbd;go_wp2_with fail
 refine (HSZ.out _ HQZ.out).mono ?_;rintro e w1 ⟨rfl,hq1⟩;have HQ1:=Hd (HQZ.out.trans hq1);have HD1:=Hd (HDZ.out.q hq1);clear hq1;have y1:=HD1.out.cell 1 rfl;go_wp2_with fail
 clear y1;go_loopw [5,17] (fun x i wr=>∃ k:Nat,i = .int .i64 k /\ k <= m1 /\ OwnI 75 wr w1.heap.size x (WI k) /\ Q w1 wr) (fun _ i _=>m1 - (intOf i).toNat)
 case atStart=>exact ⟨0,rfl,by omega,by rw [HWZ.out];exact OwnI.nil _ _ _,Q.refl _⟩
 case round =>
  obtain ⟨k,rfl,hk,ho,hq⟩:=hrel;by_cases hlt:k < m1
  ·have hwl:=HWL.out k
   obtain ⟨ol,hol2⟩:∃ n,n = (WI k).length:=⟨_,rfl⟩;rw [<- hol2] at hwl;obtain ⟨oa,oc,rfl,_,_⟩:=ho.lst.form0 hol2.symm;have HOL:=Hd hol2;clear hol2;have HQR:=Hd (HQ1.out.trans hq);obtain ⟨gg,off,cap,hvv,hg,_,_,c1'⟩:=HV.out wr HQR.out k hlt;cases hvv;have HWK:=Hd (HWS.out k);have hdx:=HDX.out k;have HEK:=Hd (fun u=>HEN.out ((m1:Int) - 1 - k) u (by omega) (by omega));generalize I.getD k 0 = x at *;rw [HDE.out,HGR.out] at HWK;have HDX2:=Hd (fun u q=>HDG.out x hdx.1 hdx.2 u q);generalize Lm.dgt r x.toNat = D at *;have HO:=Hd ho;have HQ:=Hd hq;have HDR:=Hd (HD1.out.q hq);have y1:=HDR.out.cell 1 rfl;clear ho hq;go_wp2_with fail
   refine (HDX2.out _ HQR.out).mono ?_;rintro e w2 ⟨rfl,hq2⟩;clear y1 c1';have HQ2:=Hd (HQ.out.trans hq2);have HO2:=Hd (HO.out.q hq2);have HD2:=Hd (HDR.out.q hq2);have hle2:=HQ2.out.le;clear hq2;go_wp2_with (at_builtin;refine Im.push elP HO2.out rfl _ _ rfl 2 D (k:Int) (by rfl) (by rfl) (by rw [<- HOL.out];omega) hle2 ?_)
   intro v3 w3 ho3 hg3 hat3;have HQ3:=Hd (HQ2.out.grown hg3 (fun j h=>(HO2.out.lt j h).1));have HO3:=Hd ho3;have HD3:=Hd (HD1.out.q HQ3.out);have y1:=HD3.out.cell 1 rfl;have hl3:=ho3.lst.form0 (n:=ol + 1) (by rw [List.length_append,<- HOL.out];rfl);obtain ⟨a3,c3,rfl,_,_⟩:=hl3;clear ho3 hg3 hat3 hle2;go_wp2_with fail
   refine (HEK.out _).mono ?_;rintro e w4 ⟨rfl,rfl⟩;clear y1;cases heb:endB ((m1:Int) - 1 - k) p0 p1
   ·have HO4:=Hd (show OwnI 75 w3 w1.heap.size (.slice a3 (ol + 1) c3) (WI (k + 1)) by rw [HWK.out,heb];simpa using HO3.out)
    clear heb;go_wp2_with fail
    exact ⟨⟨k + 1,by go_num,by omega,HO4.out,HQ3.out⟩,by simp [intOf];omega⟩
   ·have HW4:=Hd (show WI (k + 1) = WI k ++ [(2,D,(k:Int))] ++ [(3,s4,-1)] by rw [HWK.out,heb];simp)
    clear heb;go_wp2_with fail
    refine (HR.out _ (HQ1.out.trans HQ3.out)).mono ?_;rintro e w5 ⟨rfl,hq5⟩;have HQ5:=Hd (HQ3.out.trans hq5);have HO5:=Hd (HO3.out.q hq5);have hle5:=HQ5.out.le;have hf:=HF.out w5;clear hq5;go_wp2_with (at_builtin;refine Im.push elP HO5.out rfl _ _ rfl 3 s4 (-1) (by rfl) (by rfl) (by rw [List.length_append,<- HOL.out];simp;omega) hle5 ?_)
    intro v6 w6 ho6 hg6 hat6;have HQ6:=Hd (HQ5.out.grown hg6 (fun j h=>(HO5.out.lt j h).1));have HO6:=Hd (show OwnI 75 w6 w1.heap.size v6 (WI (k + 1)) by rw [HW4.out];simpa [List.append_assoc] using ho6);clear ho6 hg6 hat6 hf;go_wp2_with fail
    exact ⟨⟨k + 1,by go_num,by omega,HO6.out,HQ6.out⟩,by simp [intOf];omega⟩
  ·obtain rfl:k = m1:=by omega
   have HO:=Hd (ho.mono HQ1.out.le);have HQ:=Hd (HQ1.out.trans hq);clear ho hq;go_wp2_with fail
   go_ret
   exact ⟨_,rfl,HO.out,HQ.out⟩
end It
end
section
namespace Sx
open Um Cm Gm Im
def sg (r:Lm.Rec) (s:ByteArray):List Int:=(pcs s).map (Lm.sgn r)
def isA (k:Int):Bool:=decide (0 <= k /\ k <= 10)
def atm (l:List Int):List Int:=l.filter isA
def ngv (l:List Int):Bool:=l.any (· == 12)
theorem atm_app (a b:List Int):atm (a ++ b) = atm a ++ atm b:=by unfold atm;rw [List.filter_append]
theorem ngv_app (a b:List Int):ngv (a ++ b) = (ngv a || ngv b):=by unfold ngv;rw [List.any_append]
theorem atm_take (l:List Int) (k:Nat) (hk:k < l.length):atm (l.take (k + 1)) = atm (l.take k) ++ if isA (l.getD k 0) = true then [l.getD k 0] else []:=by
 rw [List.take_add_one,List.getElem?_eq_getElem hk,atm_app,List.getD_eq_getElem?_getD,List.getElem?_eq_getElem hk];unfold atm;simp only [Option.toList,Option.getD,List.filter_cons,List.filter_nil]
theorem ngv_take (l:List Int) (k:Nat) (hk:k < l.length):ngv (l.take (k + 1)) = (ngv (l.take k) || l.getD k 0 == 12):=by
 rw [List.take_add_one,List.getElem?_eq_getElem hk,ngv_app,List.getD_eq_getElem?_getD,List.getElem?_eq_getElem hk];unfold ngv;simp
theorem atm_ok (l:List Int):Tm.okA (atm l) = true:=by
 rw [Tm.okA_iff];intro d hd;have:=(List.mem_filter.1 hd).2;unfold isA at this;simpa using this
theorem atm_len (l:List Int):(atm l).length <= l.length:=List.length_filter_le _ _
theorem sg_len (r:Lm.Rec) (s:ByteArray):(sg r s).length <= s.size:=by
 unfold sg;rw [List.length_map,pcs_length];have:=begL_length s.data.toList;rw [size_list] at this;omega
theorem pcs_flat {α:Type} (f:α -> List UInt8):∀ l:List α,(∀ x ∈ l,pE (f x)) -> pcs ⟨(l.flatMap f).toArray⟩ = l.flatMap fun x=>pcs ⟨(f x).toArray⟩
 | [],_=>pcs_emp
 | x :: l,h=>by
  have ih:=pcs_flat f l (fun y hy=>h y (List.mem_cons_of_mem _ hy));have hr:=pE_flat f l (fun y hy=>h y (List.mem_cons_of_mem _ hy));rw [List.flatMap_cons,List.flatMap_cons,<- ih];rcases h x List.mem_cons_self with h1 | h1
  ·rw [h1,List.nil_append]
   show _ = pcs ⟨#[]⟩ ++ _;rw [pcs_emp,List.nil_append]
  ·rcases hr with h2 | h2
   ·rw [h2,List.append_nil]
    show _ = _ ++ pcs ⟨#[]⟩;rw [pcs_emp,List.append_nil]
   ·rw [bs_app]
    exact pln_pcs (by simpa using h1) (by simpa using h2)
theorem pcs_one {x:ByteArray} (h:(pcs x).length = 1):pcs x = [x]:=by
 obtain ⟨p,hp⟩:=List.length_eq_one_iff.1 h;have h1:=pcs_all x;rw [hp] at h1 |-;simp only [List.flatMap_cons,List.flatMap_nil,List.append_nil] at h1;have:p = x:=by
  apply ByteArray.ext;apply Array.ext';exact h1
 rw [this]
theorem out_sgn {r:Lm.Rec} {X:Pt.Pat} (hO:Lm.Ok r X) {c:ByteArray} (hc:c ∈ Lm.clus r X):Lm.sgn r c = -1:=by
 unfold Lm.sgn;split
 ·rfl
 ·exact Lm.plc_none _ 0 (hO.cl c hc)
theorem atx_sgn {r:Lm.Rec} {X:Pt.Pat} (h:It.LOk r X) {A:List Pc.E} (hA:A ∈ Lm.affs X) (B:List Pc.E) (hB:∀ x ∈ B,x ∈ A):∀ c ∈ pcs (Lm.bs (Lm.atx r B)),Lm.sgn r c = -1:=by
 intro c hc;have e:∀ D:List Pc.E,(∀ x ∈ D,x ∈ A) -> pcs (Lm.bs (Lm.atx r D)) = D.flatMap fun x=>pcs (Lm.bs (Lm.ptx r x)):=fun D hD=>pcs_flat (Lm.ptx r) D fun x hx=>ptx_pE h hA (hD x hx);rw [e B hB] at hc;obtain ⟨x,hx,hcx⟩:=List.mem_flatMap.1 hc;refine out_sgn h.ok ?_;unfold Lm.clus;refine List.mem_flatMap.2 ⟨A,hA,?_⟩;rw [e A (fun _ h=>h)];exact List.mem_flatMap.2 ⟨x,hB x hx,hcx⟩
def se (r:Lm.Rec) (e:E):List Int:=(pcs e.2.1).map (Lm.sgn r)
theorem sg_tx (r:Lm.Rec) (l:List E) (h:∀ e ∈ l,okT e.2.1):sg r ⟨(txI l).toArray⟩ = l.flatMap (se r):=by
 unfold sg se;rw [(pcs_tx l fun e he=>(h e he).1).1,List.map_flatMap]
def Gd (r:Lm.Rec) (e:E):Prop:=(e.1 = 0 /\ ∀ k ∈ se r e,k = -1) \/ (e.1 = 1 /\ se r e = [12]) \/ (e.1 = 2 /\ ∃ d,0 <= d /\ d <= 9 /\ se r e = [d]) \/ (e.1 = 3 /\ se r e = [11]) \/ (e.1 = 4 /\ se r e = [10])
theorem one_se {r:Lm.Rec} {x:ByteArray} {k:Int} (h1:(pcs x).length = 1) (h2:Lm.sgn r x = k) (a b:Int):se r (a,x,b) = [k]:=by
 unfold se;dsimp only;rw [pcs_one h1];simp [h2]
theorem sym_one {l:List UInt8} (h:Lm.symB l = true):(pcs (Lm.bs l)).length = 1:=(Ro.one_of h).1
theorem min_se {r:Lm.Rec} {X:Pt.Pat} (h:It.LOk r X) (a b:Int):se r (a,Lm.bs r.min,b) = [12]:=one_se (sym_one h.ok.min) (sgn_at h.ok (i:=12) rfl (by omega)) a b
theorem dec_se {r:Lm.Rec} {X:Pt.Pat} (h:It.LOk r X) (a b:Int):se r (a,Lm.bs r.dec,b) = [10]:=one_se (sym_one h.ok.dec) (sgn_at h.ok (i:=10) rfl (by omega)) a b
theorem grp_se {r:Lm.Rec} {X:Pt.Pat} (h:It.LOk r X) (hp:0 < X.pr) (a b:Int):se r (a,Lm.bs r.grp,b) = [11]:=by
 have hs:=h.ok.grp1 hp;refine one_se (sym_one hs) ?_ a b;unfold Lm.sgn;have hne:=pln_ne (sym_pln hs).1;have hz:¬ (Lm.bs r.grp).size = 0:=by
  rw [Lm.bs_size];have:=List.length_pos_iff.2 hne;omega
 rw [if_neg hz,Lm.plc_nodup _ 0 11 _ h.ok.dis rfl];rfl
theorem dig_one:∀ p ∈ Sm.tab,∀ d:Nat,d < 10 -> (begL (enc (p.2 + (d:Int)))).length = 1:=by decide +kernel
theorem dgt_one {r:Lm.Rec} {X:Pt.Pat} (h:It.LOk r X) (x:Int) (h0:0 <= x) (h9:x <= 9):(pcs (Lm.dgt r x.toNat)).length = 1:=by
 rcases Sm.nz_cases r.sys with hn | hn
 ·have:=h.ok.sys;omega
 ·have h1:=dig_one _ hn x.toNat (by omega)
  obtain ⟨_,h2,_⟩:=dig_cls _ hn x.toNat (by omega);dsimp only at h1 h2;rw [Ro.dgt_enc h.ok.sys x.toNat (by omega),pcs_length,encB_list _ h2];exact h1
theorem dgt_se {r:Lm.Rec} {X:Pt.Pat} (h:It.LOk r X) (x:Int) (h0:0 <= x) (h9:x <= 9) (a b:Int):se r (a,Lm.dgt r x.toNat,b) = [x]:=by
 refine one_se (dgt_one h x h0 h9) ?_ a b;rw [sgn_at h.ok (dgt_at r x.toNat (by omega)) (by omega)];omega
theorem aff_gd {r:Lm.Rec} {X:Pt.Pat} (h:It.LOk r X) {A:List Pc.E} (hA:A ∈ Lm.affs X) {e:E} (he:e ∈ affI r (Lo.parP r A)):Gd r e:=by
 obtain ⟨p,hp,rfl⟩:=List.mem_map.1 he;unfold affE;split
 ·exact .inr (.inl ⟨rfl,min_se h _ _⟩)
 ·next hp1 =>
  rcases parP_mem hp with h1 | ⟨B,h1,h2,_⟩
  ·exact absurd h1 hp1
  ·refine .inl ⟨rfl,fun k hk=>?_⟩
   unfold se at hk;dsimp only at hk;rw [h1] at hk;obtain ⟨c,hc,rfl⟩:=List.mem_map.1 hk;exact atx_sgn h hA B h2 c hc
theorem grp_gd {r:Lm.Rec} {X:Pt.Pat} (h:It.LOk r X) {l:Int} {e:E} (he:e ∈ grpI r l X.pr X.se):Gd r e:=by
 unfold grpI at he;split at he
 ·next hb =>
  simp only [List.mem_cons,List.not_mem_nil,or_false] at he;subst he;refine .inr (.inr (.inr (.inl ⟨rfl,grp_se h ?_ _ _⟩)));unfold endB at hb;simp only [Bool.and_eq_true,decide_eq_true_eq] at hb;omega
 ·cases he
theorem wh_gd {r:Lm.Rec} {X:Pt.Pat} (h:It.LOk r X) {I:List Int} (hI:Dm.okD I):∀ k,∀ e ∈ whI r X.pr X.se I k,Gd r e
 | 0,e,he=>by cases he
 | k + 1,e,he=>by
  rw [whI_succ] at he;rcases List.mem_append.1 he with he | he
  ·exact wh_gd h hI k e he
  ·rcases List.mem_cons.1 he with rfl | he
   ·have hd:=digit_at hI k
    exact .inr (.inr (.inl ⟨rfl,_,hd.1,hd.2,dgt_se h _ hd.1 hd.2 _ _⟩))
   ·exact grp_gd h he
theorem re_gd {r:Lm.Rec} {X:Pt.Pat} (h:It.LOk r X) {F:List Int} (hF:Dm.okD F) (n:Nat):∀ k,∀ e ∈ reI r n F k,Gd r e
 | 0,e,he=>by
  rw [reI_zero] at he;simp only [List.mem_cons,List.not_mem_nil,or_false] at he;subst he;exact .inr (.inr (.inr (.inr ⟨rfl,dec_se h _ _⟩)))
 | k + 1,e,he=>by
  rw [reI_succ] at he;rcases List.mem_append.1 he with he | he
  ·exact re_gd h hF n k e he
  ·simp only [List.mem_cons,List.not_mem_nil,or_false] at he
   subst he;have hd:=digit_at hF k;exact .inr (.inr (.inl ⟨rfl,_,hd.1,hd.2,dgt_se h _ hd.1 hd.2 _ _⟩))
def itd (r:Lm.Rec) (X:Pt.Pat) (d:Tm.T):List E:=itm r X.pr X.se d (Lo.parP r (Ro.ahd d.g X)) (Lo.parP r (Ro.bhd d.g X))
theorem itm_gd {r:Lm.Rec} {X:Pt.Pat} (h:It.LOk r X) {d:Tm.T} (hm:Tm.may d = true):∀ e ∈ itd r X d,Gd r e:=by
 obtain ⟨hI,hF,_⟩:=Tm.may_dig hm;intro e he;unfold itd itm at he;have hm1:Ro.ahd d.g X ∈ Lm.affs X:=by cases d.g <;> simp [Ro.ahd,Lm.affs]
 have hm2:Ro.bhd d.g X ∈ Lm.affs X:=by cases d.g <;> simp [Ro.bhd,Lm.affs]
 rcases List.mem_append.1 he with he | he
 ·rcases List.mem_append.1 he with he | he
  ·rcases List.mem_append.1 he with he | he
   ·exact aff_gd h hm1 he
   ·exact wh_gd h hI _ e he
  ·unfold resI at he
   split at he
   ·exact re_gd h hF _ _ e he
   ·cases he
 ·exact aff_gd h hm2 he
def tx (r:Lm.Rec) (X:Pt.Pat) (d:Tm.T):ByteArray:=⟨(txI (itd r X d)).toArray⟩
theorem sg_itd {r:Lm.Rec} {X:Pt.Pat} (h:It.LOk r X) {d:Tm.T} (hm:Tm.may d = true):sg r (tx r X d) = (itd r X d).flatMap (se r) :=
 sg_tx r _ (itm_okT h (Tm.may_dig hm).1 (Tm.may_dig hm).2.1 d.g)
theorem atm_flat {r:Lm.Rec} {l:List E} (h:∀ e ∈ l,Gd r e):atm (l.flatMap (se r)) = (l.filter atB).flatMap (se r):=by
 induction l with
 | nil=>rfl
 | cons e l ih =>
  have ih:=ih (fun x hx=>h x (List.mem_cons_of_mem _ hx));rw [List.flatMap_cons,atm_app,ih];rcases h e List.mem_cons_self with ⟨h1,h2⟩ | ⟨h1,h2⟩ | ⟨h1,d,h3,h4,h2⟩ | ⟨h1,h2⟩ | ⟨h1,h2⟩
  ·have hb:atB e = false:=by unfold atB;rw [h1];rfl
   rw [List.filter_cons_of_neg (by rw [hb];simp)];have:atm (se r e) = []:=by
    unfold atm;rw [List.filter_eq_nil_iff];intro k hk;rw [h2 k hk];decide
   rw [this,List.nil_append]
  ·have hb:atB e = false:=by unfold atB;rw [h1];rfl
   rw [List.filter_cons_of_neg (by rw [hb];simp),h2];rfl
  ·have hb:atB e = true:=by unfold atB;rw [h1];rfl
   rw [List.filter_cons_of_pos hb,List.flatMap_cons,h2];have:atm [d] = [d]:=by
    unfold atm isA;simp;omega
   rw [this]
  ·have hb:atB e = false:=by unfold atB;rw [h1];rfl
   rw [List.filter_cons_of_neg (by rw [hb];simp),h2];rfl
  ·have hb:atB e = true:=by unfold atB;rw [h1];rfl
   rw [List.filter_cons_of_pos hb,List.flatMap_cons,h2];rfl
theorem ngv_flat {r:Lm.Rec} {l:List E} (h:∀ e ∈ l,Gd r e):ngv (l.flatMap (se r)) = decide (0 < l.countP sgB):=by
 induction l with
 | nil=>rfl
 | cons e l ih =>
  have ih:=ih (fun x hx=>h x (List.mem_cons_of_mem _ hx));rw [List.flatMap_cons,ngv_app,ih,List.countP_cons];rcases h e List.mem_cons_self with ⟨h1,h2⟩ | ⟨h1,h2⟩ | ⟨h1,d,h3,h4,h2⟩ | ⟨h1,h2⟩ | ⟨h1,h2⟩
  ·have hb:sgB e = false:=by unfold sgB;rw [h1];rfl
   have:ngv (se r e) = false:=by
    unfold ngv;rw [List.any_eq_false];intro k hk;rw [h2 k hk];decide
   rw [this,hb];simp
  ·have hb:sgB e = true:=by unfold sgB;rw [h1];rfl
   rw [h2,hb];simp [ngv]
  ·have hb:sgB e = false:=by unfold sgB;rw [h1];rfl
   have:ngv [d] = false:=by
    unfold ngv;simp;omega
   rw [h2,this,hb];simp
  ·have hb:sgB e = false:=by unfold sgB;rw [h1];rfl
   rw [h2,hb];simp [ngv]
  ·have hb:sgB e = false:=by unfold sgB;rw [h1];rfl
   rw [h2,hb];simp [ngv]
theorem atE_se {r:Lm.Rec} {X:Pt.Pat} (h:It.LOk r X) {L:List Int} (hL:Tm.okA L = true) (j:Nat) (hj:j < L.length):se r (atE r L j) = [L.getD j 0]:=by
 have hb:=(Tm.okA_iff L).1 hL (L.getD j 0) (by rw [List.getD_eq_getElem?_getD,List.getElem?_eq_getElem hj];exact List.getElem_mem hj);unfold atE;by_cases h10:L.getD j 0 = 10
 ·rw [if_pos h10,dec_se h,h10]
 ·rw [if_neg h10]
  exact dgt_se h _ hb.1 (by omega) _ _
theorem flat_congr {α β:Type} (f g:α -> List β):∀ l:List α,(∀ x ∈ l,f x = g x) -> l.flatMap f = l.flatMap g
 | [],_=>rfl
 | x :: l,h=>by rw [List.flatMap_cons,List.flatMap_cons,h x List.mem_cons_self,flat_congr f g l fun y hy=>h y (List.mem_cons_of_mem _ hy)]
theorem range_flat (L:List Int):∀ n,n <= L.length -> (List.range n).flatMap (fun j=>[L.getD j 0]) = L.take n
 | 0,_=>rfl
 | n + 1,h=>by
  rw [List.range_succ,List.flatMap_append,range_flat L n (by omega),List.take_add_one,List.getElem?_eq_getElem (by omega)];simp [List.getD_eq_getElem?_getD,List.getElem?_eq_getElem (show n < L.length by omega)]
theorem atm_tx {r:Lm.Rec} {X:Pt.Pat} (h:It.LOk r X) {d:Tm.T} (hm:Tm.may d = true):atm (sg r (tx r X d)) = Tm.ats d:=by
 rw [sg_itd h hm,atm_flat (itm_gd h hm)];unfold itd;rw [itm_filter r X.pr X.se d hm,List.flatMap_map];have e:(List.range (Tm.ats d).length).flatMap (fun j=>se r (atE r (Tm.ats d) j)) = (List.range (Tm.ats d).length).flatMap (fun j=>[(Tm.ats d).getD j 0]):=by
  refine flat_congr _ _ _ fun j hj=>?_;exact atE_se h (Tm.okA_ats hm) j (List.mem_range.1 hj)
 rw [e,range_flat _ _ (Nat.le_refl _),List.take_length]
theorem ngv_tx {r:Lm.Rec} {X:Pt.Pat} (h:It.LOk r X) {d:Tm.T} (hm:Tm.may d = true):ngv (sg r (tx r X d)) = d.g:=by
 rw [sg_itd h hm,ngv_flat (itm_gd h hm)];unfold itd;rw [sgn_count h.ok d d.g];cases d.g <;> rfl
def cdS (b:Bool):Int:=if b = true then 0 else 2
def cand (r:Lm.Rec) (s:ByteArray):Tm.T:=Tm.ofR (ngv (sg r s)) (atm (sg r s))
def isS (r:Lm.Rec) (X:Pt.Pat) (s:ByteArray):Bool:=decide (Tm.ofC (atm (sg r s)) = 0) && decide (tx r X (cand r s) = s)
def rd (r:Lm.Rec) (X:Pt.Pat) (s:ByteArray):Tm.T:=if isS r X s = true then cand r s else Tm.T0
theorem ofC_cases (l:List Int):Tm.ofC (atm l) = 0 \/ Tm.ofC (atm l) = 6:=by
 unfold Tm.ofC;rw [if_pos (atm_ok l)];split
 ·exact .inr rfl
 ·exact .inl rfl
theorem of_fit {g:Bool} {l:List Int} (h:Tm.ofC (atm l) = 0):Tm.ofR g (atm l) = Tm.ofD g (atm l) /\ Tm.may (Tm.ofD g (atm l)) = true:=by
 have h2:Tm.has (Tm.bhd (atm l)) = false:=by
  cases hb:Tm.has (Tm.bhd (atm l))
  ·rfl
  ·rw [Tm.ofC_two (atm_ok l) hb] at h;omega
 exact ⟨by unfold Tm.ofR;rw [if_pos h],Tm.may_of _ _ (atm_ok l) h2⟩
theorem cand_may {r:Lm.Rec} {s:ByteArray} (h:Tm.ofC (atm (sg r s)) = 0):Tm.may (cand r s) = true:=by
 unfold cand;rw [(of_fit h).1];exact (of_fit h).2
theorem cand_tx {r:Lm.Rec} {X:Pt.Pat} (h:It.LOk r X) {d:Tm.T} (hm:Tm.may d = true):Tm.ofC (atm (sg r (tx r X d))) = 0 /\ cand r (tx r X d) = d:=by
 obtain ⟨h1,h2⟩:=Tm.of_ats hm;have hc:Tm.ofC (Tm.ats d) = 0:=Tm.ofC_ok (Tm.okA_ats hm) h2;unfold cand;rw [atm_tx h hm,ngv_tx h hm];refine ⟨hc,?_⟩;unfold Tm.ofR;rw [if_pos hc];exact h1
theorem rd_tx {r:Lm.Rec} {X:Pt.Pat} (h:It.LOk r X) {d:Tm.T} (hm:Tm.may d = true):isS r X (tx r X d) = true /\ rd r X (tx r X d) = d:=by
 obtain ⟨h1,h2⟩:=cand_tx h hm;have hs:isS r X (tx r X d) = true:=by
  unfold isS;rw [h2];simp [h1]
 exact ⟨hs,by unfold rd;rw [if_pos hs];exact h2⟩
theorem isS_iff {r:Lm.Rec} {X:Pt.Pat} (h:It.LOk r X) (s:ByteArray):isS r X s = true ↔ ∃ d,Tm.may d = true /\ tx r X d = s:=by
 refine ⟨fun hs=>?_,?_⟩
 ·unfold isS at hs
  simp only [Bool.and_eq_true,decide_eq_true_eq] at hs;exact ⟨_,cand_may hs.1,hs.2⟩
 ·rintro ⟨d,hm,rfl⟩
  exact (rd_tx h hm).1
theorem rd_may (r:Lm.Rec) (X:Pt.Pat) (s:ByteArray):Tm.may (rd r X s) = true:=by
 unfold rd;split
 ·next hs =>
  unfold isS at hs;simp only [Bool.and_eq_true,decide_eq_true_eq] at hs;exact cand_may hs.1
 ·rfl
theorem rd_shown {r:Lm.Rec} {X:Pt.Pat} {s:ByteArray} (hs:isS r X s = true):tx r X (rd r X s) = s:=by
 have h2:=hs;unfold isS at h2;simp only [Bool.and_eq_true,decide_eq_true_eq] at h2;unfold rd;rw [if_pos hs];exact h2.2
theorem rd_none {r:Lm.Rec} {X:Pt.Pat} {s:ByteArray} (hs:isS r X s = false):rd r X s = Tm.T0:=by
 unfold rd;rw [hs];rfl
theorem tx_inj {r:Lm.Rec} {X:Pt.Pat} (h:It.LOk r X) {d d':Tm.T} (hm:Tm.may d = true) (hm':Tm.may d' = true) (he:tx r X d = tx r X d'):d = d':=by
 rw [<- (rd_tx h hm).2,he,(rd_tx h hm').2]
theorem tx_size {r:Lm.Rec} {X:Pt.Pat} (h:It.LOk r X) {d:Tm.T} (hm:Tm.may d = true):(tx r X d).size <= 64 * (2 * d.i.length + d.f.length + 7):=by
 have h1:=tx_len (itd r X d) (itm_okT h (Tm.may_dig hm).1 (Tm.may_dig hm).2.1 d.g);have h2:=itm_len r X.pr X.se d (Lo.parP r (Ro.ahd d.g X)) (Lo.parP r (Ro.bhd d.g X));have h3:=(Ro.around_fact h.ok d.g).2.2.1;have h4:=(Ro.around_fact h.ok d.g).2.2.2;have e:(tx r X d).size = (txI (itd r X d)).length:=by unfold tx;simp [ByteArray.size]
 rw [e];unfold itd at h1 |-;have h5:64 * (itm r X.pr X.se d (Lo.parP r (Ro.ahd d.g X)) (Lo.parP r (Ro.bhd d.g X))).length <= 64 * (2 * d.i.length + d.f.length + 7):=Nat.mul_le_mul_left _ (by omega);omega
end Sx
end
section
namespace Sx
open Um Cm Gm Im
def nog (l:List Int):List Int:=l.filter fun k=>!(k == 11)
theorem nog_cons (k:Int) (l:List Int):nog (k :: l) = if k = 11 then nog l else k :: nog l:=by
 unfold nog;by_cases h:k = 11
 ·rw [if_pos h,List.filter_cons_of_neg (by simp [h])]
 ·rw [if_neg h,List.filter_cons_of_pos (by simp [h])]
def whl (l:List Int):Nat:=(Tm.ahd (nog l)).length
theorem whl_cons (k:Int) (l:List Int):whl (k :: l) = if k = 10 then 0 else if k = 11 then whl l else whl l + 1:=by
 unfold whl;rw [nog_cons];by_cases h:k = 11
 ·rw [if_pos h,if_neg (by omega),if_pos h]
 ·rw [if_neg h,Tm.ahd_cons]
  by_cases h2:k = 10
  ·rw [if_pos h2,if_pos h2];rfl
  ·rw [if_neg h2,if_neg h2,if_neg h];rfl
theorem whl_le:∀ l,whl l <= l.length
 | []=>Nat.le_refl _
 | k :: l=>by
  have h:=whl_le l;rw [whl_cons,List.length_cons];split
  ·omega
  ·split <;> omega
def ung (p s:Int):Int -> Bool -> List Int -> Option (List Int)
 | _,_,[]=>some []
 | left,due,k :: l=>if due = (k == 11) then (if due = true then ung p s left false l else (ung p s (left - 1) (endB (left - 1) p s) l).map (k :: ·)) else none
def fw (p s:Int):Int -> List Int -> List Int
 | _,[]=>[]
 | left,k :: l=>k :: ((if endB (left - 1) p s = true then [11] else []) ++ fw p s (left - 1) l)
theorem ung_nil (p s left:Int) (due:Bool):ung p s left due [] = some []:=by unfold ung;rfl
theorem ung_cons (p s left:Int) (due:Bool) (k:Int) (l:List Int):ung p s left due (k :: l) = if due = (k == 11) then (if due = true then ung p s left false l else (ung p s (left - 1) (endB (left - 1) p s) l).map (k :: ·)) else none:=by
 rw [ung]
theorem ung_bad {p s left:Int} {due:Bool} {k:Int} {l:List Int} (h:due ≠ (k == 11)):ung p s left due (k :: l) = none:=by
 rw [ung_cons,if_neg h]
theorem ung_grp {p s left:Int} {k:Int} {l:List Int} (h:k = 11):ung p s left true (k :: l) = ung p s left false l:=by
 rw [ung_cons,if_pos (by rw [h];rfl),if_pos rfl]
theorem ung_at {p s left:Int} {k:Int} {l:List Int} (h:k ≠ 11):ung p s left false (k :: l) = (ung p s (left - 1) (endB (left - 1) p s) l).map (k :: ·):=by
 have h2:(k == 11) = false:=by simp [h]
 rw [ung_cons,if_pos h2.symm,if_neg (by simp)]
theorem ung_fw (p s:Int):∀ (L:List Int) (left:Int),(∀ k ∈ L,k ≠ 11) -> ung p s left false (fw p s left L) = some L
 | [],left,_=>by rw [fw,ung_nil]
 | k :: l,left,h=>by
  rw [fw,ung_at (h k List.mem_cons_self)];have ih:=ung_fw p s l (left - 1) fun x hx=>h x (List.mem_cons_of_mem _ hx);cases hb:endB (left - 1) p s
  ·rw [if_neg (by simp),List.nil_append,ih];rfl
  ·rw [if_pos rfl,List.cons_append,List.nil_append,ung_grp rfl,ih];rfl
theorem ung_inv (p s:Int):∀ (S:List Int) (left:Int) (due:Bool) (L:List Int),ung p s left due S = some L -> (due = true -> 1 <= left) -> left <= L.length -> S = (if due = true then [11] else []) ++ fw p s left L
 | [],left,due,L,h,hd,hl=>by
  rw [ung_nil] at h;cases h;cases due
  ·rw [if_neg (by simp),fw];rfl
  ·have:=hd rfl
   simp only [List.length_nil] at hl;omega
 | k :: l,left,due,L,h,hd,hl=>by
  by_cases hk:due = (k == 11)
  ·cases due
   ·have hk2:k ≠ 11:=by simpa using hk.symm
    rw [ung_at hk2] at h;obtain ⟨L2,h2,rfl⟩:=Option.map_eq_some_iff.1 h;rw [List.length_cons] at hl;have ih:=ung_inv p s l (left - 1) _ L2 h2 (fun hb=>by
     rcases Int.lt_or_le (left - 1) 1 with h3 | h3
     ·rw [endB_low (by omega)] at hb;cases hb
     ·exact h3) (by omega)
    rw [if_neg (by simp),List.nil_append,fw,<- ih]
   ·have hk2:k = 11:=by simpa using hk.symm
    subst hk2;rw [ung_grp rfl] at h;have ih:=ung_inv p s l left false L h (fun hb=>by cases hb) hl;rw [if_neg (by simp),List.nil_append] at ih;rw [if_pos rfl,ih];rfl
  ·rw [ung_bad hk] at h;cases h
theorem ung_nog (p s:Int):∀ (S:List Int) (left:Int) (due:Bool) (L:List Int),ung p s left due S = some L -> L = nog S
 | [],left,due,L,h=>by rw [ung_nil] at h;cases h;rfl
 | k :: l,left,due,L,h=>by
  by_cases hk:due = (k == 11)
  ·cases due
   ·have hk2:k ≠ 11:=by simpa using hk.symm
    rw [ung_at hk2] at h;obtain ⟨L2,h2,rfl⟩:=Option.map_eq_some_iff.1 h;rw [nog_cons,if_neg hk2,ung_nog p s l _ _ L2 h2]
   ·have hk2:k = 11:=by simpa using hk.symm
    rw [ung_grp hk2] at h;rw [nog_cons,if_pos hk2,ung_nog p s l _ _ L h]
  ·rw [ung_bad hk] at h;cases h
theorem fw_nog (p s:Int):∀ (L:List Int) (left:Int),(∀ k ∈ L,k ≠ 11) -> nog (fw p s left L) = L
 | [],left,_=>by rw [fw];rfl
 | k :: l,left,h=>by
  have ih:=fw_nog p s l (left - 1) fun x hx=>h x (List.mem_cons_of_mem _ hx);rw [fw,nog_cons,if_neg (h k List.mem_cons_self)];cases hb:endB (left - 1) p s
  ·rw [if_neg (by simp),List.nil_append,ih]
  ·rw [if_pos rfl,List.cons_append,List.nil_append,nog_cons,if_pos rfl,ih]
theorem ung_all (p s:Int) (S L:List Int) (h:ung p s (whl S) false S = some L):S = fw p s ((Tm.ahd L).length:Nat) L:=by
 have h1:=ung_nog p s S _ _ L h;have h2:whl S = (Tm.ahd L).length:=by unfold whl;rw [h1]
 have h3:=ung_inv p s S _ _ L h (fun hb=>by cases hb) (by rw [h2];have:=Tm.ahd_le L;omega);rw [if_neg (by simp),List.nil_append,h2] at h3;exact h3
theorem ung_back (p s:Int) (L:List Int) (h:∀ k ∈ L,k ≠ 11):ung p s (whl (fw p s ((Tm.ahd L).length:Nat) L)) false (fw p s ((Tm.ahd L).length:Nat) L) = some L:=by
 have h2:whl (fw p s ((Tm.ahd L).length:Nat) L) = (Tm.ahd L).length:=by unfold whl;rw [fw_nog p s L _ h]
 rw [h2];exact ung_fw p s L _ h
def rowS (p s n:Int) (L:List Int):Nat -> List Int
 | 0=>[]
 | k + 1=>rowS p s n L k ++ (if L.getD k 0 = 10 then [10] else L.getD k 0 :: (if endB (n - 1 - k) p s = true then [11] else []))
theorem ahd_hit (L:List Int):∀ k,k < L.length -> L.getD k 0 = 10 -> (Tm.ahd L).length <= k:=by
 induction L with
 | nil=>intro k hk;simp at hk
 | cons x l ih =>
  intro k hk h;rw [Tm.ahd_cons];by_cases hx:x = 10
  ·rw [if_pos hx];exact Nat.zero_le _
  ·rw [if_neg hx]
   cases k with
   | zero=>exact absurd h hx
   | succ k =>
    have:=ih k (by simpa using hk) (by simpa using h);rw [List.length_cons];omega
theorem rowS_fw (p s:Int) (L:List Int):∀ k,k <= L.length -> rowS p s ((Tm.ahd L).length:Nat) L k ++ fw p s (((Tm.ahd L).length:Nat) - (k:Int)) (L.drop k) = fw p s ((Tm.ahd L).length:Nat) L
 | 0,_=>by simp [rowS]
 | k + 1,hk=>by
  have ih:=rowS_fw p s L k (by omega);rw [List.drop_eq_getElem_cons (show k < L.length by omega),fw] at ih;rw [<- ih,rowS,List.append_assoc];congr 1
  have e:L.getD k 0 = L[k]:=by rw [List.getD_eq_getElem?_getD,List.getElem?_eq_getElem (show k < L.length by omega)];rfl
  rw [e,show (((Tm.ahd L).length:Nat):Int) - ((k + 1:Nat):Int) = ((Tm.ahd L).length:Nat) - (k:Int) - 1 by omega];by_cases h10:L[k] = 10
  ·have h2:=ahd_hit L k (by omega) (by rw [e];exact h10)
   rw [if_pos h10,endB_low (by omega),if_neg (by simp),h10];rfl
  ·rw [if_neg h10,show (((Tm.ahd L).length:Nat):Int) - 1 - (k:Int) = ((Tm.ahd L).length:Nat) - (k:Int) - 1 by omega]
   rfl
theorem rowS_all (p s:Int) (L:List Int):rowS p s ((Tm.ahd L).length:Nat) L L.length = fw p s ((Tm.ahd L).length:Nat) L:=by
 have h:=rowS_fw p s L L.length (Nat.le_refl _);rw [List.drop_length,fw,List.append_nil] at h;exact h
theorem rowI_se {r:Lm.Rec} {X:Pt.Pat} (h:It.LOk r X) (n:Int) {L:List Int} (hL:Tm.okA L = true):∀ k,k <= L.length -> (rowI r X.pr X.se n L k).flatMap (se r) = rowS X.pr X.se n L k
 | 0,_=>rfl
 | k + 1,hk=>by
  rw [rowI_succ,List.flatMap_append,rowI_se h n hL k (by omega),rowS];congr 1
  have hb:=(Tm.okA_iff L).1 hL (L.getD k 0) (by rw [List.getD_eq_getElem?_getD,List.getElem?_eq_getElem (show k < L.length by omega)];exact List.getElem_mem _);unfold stpI;by_cases h10:L.getD k 0 = 10
  ·rw [if_pos h10,if_pos h10,List.flatMap_cons,dec_se h,List.flatMap_nil,List.append_nil]
  ·rw [if_neg h10,if_neg h10,List.flatMap_cons]
   unfold dgE;rw [dgt_se h _ hb.1 (by omega),List.cons_append,List.nil_append];congr 1
   unfold grpI;cases he:endB (n - 1 - (k:Int)) X.pr X.se
   ·rw [if_neg (by simp),if_neg (by simp)];rfl
   ·have hp:0 < X.pr:=by
     unfold endB at he;simp only [Bool.and_eq_true,decide_eq_true_eq] at he;omega
    rw [if_pos rfl,if_pos rfl,List.flatMap_cons,grp_se h hp,List.flatMap_nil,List.append_nil]
theorem ats_ahd {d:Tm.T} (hm:Tm.may d = true):(Tm.ahd (Tm.ats d)).length = d.i.length:=by
 have h:=congrArg Tm.T.i (Tm.of_ats hm).1;have h2:Tm.ahd (Tm.ats d) = d.i:=h;rw [h2]
theorem midI_se {r:Lm.Rec} {X:Pt.Pat} (h:It.LOk r X) {d:Tm.T} (hm:Tm.may d = true):(midI r X.pr X.se d).flatMap (se r) = fw X.pr X.se (d.i.length:Nat) (Tm.ats d):=by
 rw [<- row_all r X.pr X.se d hm,rowI_se h _ (Tm.okA_ats hm) _ (Nat.le_refl _)];have h2:=rowS_all X.pr X.se (Tm.ats d);rw [ats_ahd hm] at h2;exact h2
def sy (r:Lm.Rec) (k:Int):ByteArray:=(Lm.syms r).getD k.toNat ⟨#[]⟩
theorem plc_get (x:ByteArray):∀ (xs:List ByteArray) (k:Nat),0 <= Lm.plc x xs k -> (k:Int) <= Lm.plc x xs k /\ xs.getD ((Lm.plc x xs k) - k).toNat ⟨#[]⟩ = x
 | [],k,h=>by unfold Lm.plc at h;omega
 | y :: l,k,h=>by
  unfold Lm.plc at h |-;by_cases hx:x = y
  ·rw [if_pos hx]
   refine ⟨Int.le_refl _,?_⟩;rw [show ((k:Int) - (k:Int)).toNat = 0 by omega];exact hx.symm
  ·rw [if_neg hx] at h |-
   obtain ⟨h1,h2⟩:=plc_get x l (k + 1) h;refine ⟨by omega,?_⟩;rw [show (Lm.plc x l (k + 1) - (k:Int)).toNat = (Lm.plc x l (k + 1) - ((k + 1:Nat):Int)).toNat + 1 by omega];exact h2
theorem sy_of {r:Lm.Rec} {c:ByteArray} (h:0 <= Lm.sgn r c):sy r (Lm.sgn r c) = c:=by
 unfold Lm.sgn at h |-;unfold sy;split at h
 ·omega
 ·next hs =>
  rw [if_neg hs];have:=(plc_get c (Lm.syms r) 0 h).2;simpa using this
theorem pcs_sy {r:Lm.Rec}:∀ l:List ByteArray,(∀ k ∈ l.map (Lm.sgn r),0 <= k) -> (l.flatMap fun c=>c.data.toList) = (l.map (Lm.sgn r)).flatMap fun k=>(sy r k).data.toList
 | [],_=>rfl
 | c :: l,h=>by
  rw [List.flatMap_cons,List.map_cons,List.flatMap_cons,sy_of (h _ (by simp)),pcs_sy l fun k hk=>h k (by rw [List.map_cons];exact List.mem_cons_of_mem _ hk)]
theorem by_sy {r:Lm.Rec} {m:ByteArray} (h:∀ k ∈ sg r m,0 <= k):m.data.toList = (sg r m).flatMap fun k=>(sy r k).data.toList:=by
 rw [<- pcs_all m];exact pcs_sy (pcs m) h
theorem txt_sy {r:Lm.Rec}:∀ l:List E,(∀ e ∈ l,∀ k ∈ se r e,0 <= k) -> txI l = (l.flatMap (se r)).flatMap fun k=>(sy r k).data.toList
 | [],_=>rfl
 | e :: l,h=>by
  unfold txI;rw [List.flatMap_cons,List.flatMap_cons,List.flatMap_append];have h1:e.2.1.data.toList = (se r e).flatMap fun k=>(sy r k).data.toList:=by
   rw [<- pcs_all e.2.1];exact pcs_sy (pcs e.2.1) (h e List.mem_cons_self)
  have h2:=txt_sy l fun x hx=>h x (List.mem_cons_of_mem _ hx);unfold txI at h2;rw [h1,h2]
theorem mid_gd {r:Lm.Rec} {X:Pt.Pat} (h:It.LOk r X) {d:Tm.T} (hm:Tm.may d = true):∀ e ∈ midI r X.pr X.se d,∀ k ∈ se r e,0 <= k:=by
 obtain ⟨hI,hF,_⟩:=Tm.may_dig hm;intro e he;have ht:Gd r e /\ (e.1 = 2 \/ e.1 = 3 \/ e.1 = 4):=by
  unfold midI at he;rcases List.mem_append.1 he with he | he
  ·refine ⟨wh_gd h hI _ e he,?_⟩
   rcases wh_tag _ e he with h1 | h1
   ·exact .inl h1
   ·exact .inr (.inl h1.1)
  ·have h2:=res_tag he
   unfold resI at he;split at he
   ·refine ⟨re_gd h hF _ _ e he,?_⟩
    rcases h2 with h1 | h1
    ·exact .inl h1
    ·exact .inr (.inr h1)
   ·cases he
 intro k hk;obtain ⟨hg,h3⟩:=ht;rcases hg with ⟨h1,_⟩ | ⟨h1,_⟩ | ⟨_,d',h4,_,h2⟩ | ⟨_,h2⟩ | ⟨_,h2⟩
 ·omega
 ·omega
 all_goals (rw [h2] at hk;simp only [List.mem_cons,List.not_mem_nil,or_false] at hk;omega)
theorem mid_ok {r:Lm.Rec} {X:Pt.Pat} (h:It.LOk r X) {d:Tm.T} (hm:Tm.may d = true):∀ e ∈ midI r X.pr X.se d,okT e.2.1:=by
 intro e he;refine itm_okT h (d:=d) (Tm.may_dig hm).1 (Tm.may_dig hm).2.1 d.g e ?_;rw [itm_mid];exact List.mem_append.2 (.inl (List.mem_append.2 (.inr he)))
def aB (r:Lm.Rec) (X:Pt.Pat) (g:Bool):List UInt8:=txI (affI r (Lo.parP r (Ro.ahd g X)))
def bB (r:Lm.Rec) (X:Pt.Pat) (g:Bool):List UInt8:=txI (affI r (Lo.parP r (Ro.bhd g X)))
def mM (r:Lm.Rec) (X:Pt.Pat) (d:Tm.T):List UInt8:=txI (midI r X.pr X.se d)
theorem txI_app (a b:List E):txI (a ++ b) = txI a ++ txI b:=by unfold txI;rw [List.flatMap_append]
theorem tx_parts (r:Lm.Rec) (X:Pt.Pat) (d:Tm.T):(tx r X d).data.toList = aB r X d.g ++ mM r X d ++ bB r X d.g:=by
 unfold tx itd aB bB mM;rw [itm_mid,txI_app,txI_app]
theorem sg_mid {r:Lm.Rec} {X:Pt.Pat} (h:It.LOk r X) {d:Tm.T} (hm:Tm.may d = true):sg r ⟨(mM r X d).toArray⟩ = fw X.pr X.se (d.i.length:Nat) (Tm.ats d):=by
 unfold mM;rw [sg_tx r _ (mid_ok h hm),midI_se h hm]
def mdl (A B s:List UInt8):Option (List UInt8) :=
 if (Lib.hasPrefix s A && Lib.hasSuffix (Lib.trimPrefix s A) B) = true then some (Lib.trimSuffix (Lib.trimPrefix s A) B) else none
theorem mdl_of (A B m:List UInt8):mdl A B (A ++ m ++ B) = some m:=by
 have h1:Lib.hasPrefix (A ++ m ++ B) A = true:=by
  unfold Lib.hasPrefix;rw [List.isPrefixOf_iff_prefix,List.append_assoc];exact List.prefix_append _ _
 have h2:Lib.trimPrefix (A ++ m ++ B) A = m ++ B:=by
  unfold Lib.trimPrefix;rw [if_pos h1,List.append_assoc,List.drop_left]
 have h3:Lib.hasSuffix (m ++ B) B = true:=by
  unfold Lib.hasSuffix;rw [List.isSuffixOf_iff_suffix];exact List.suffix_append _ _
 unfold mdl;rw [h2,h1,h3,if_pos (show (true && true) = true from rfl)];unfold Lib.trimSuffix;rw [if_pos h3,List.length_append,Nat.add_sub_cancel,List.take_left]
theorem mdl_inv {A B s m:List UInt8} (h:mdl A B s = some m):s = A ++ m ++ B:=by
 unfold mdl at h;split at h
 ·next hb =>
  rw [Bool.and_eq_true] at hb;obtain ⟨h1,h2⟩:=hb;have e1:s = A ++ Lib.trimPrefix s A:=by
   unfold Lib.trimPrefix;rw [if_pos h1];unfold Lib.hasPrefix at h1;rw [List.isPrefixOf_iff_prefix] at h1;obtain ⟨t,rfl⟩:=h1;rw [List.drop_left]
  generalize Lib.trimPrefix s A = u at *;have e2:u = m ++ B:=by
   have h3:=h;unfold Lib.trimSuffix at h3;rw [if_pos h2] at h3;unfold Lib.hasSuffix at h2;rw [List.isSuffixOf_iff_suffix] at h2;obtain ⟨t,rfl⟩:=h2;rw [List.length_append,Nat.add_sub_cancel,List.take_left] at h3;cases h3;rfl
  rw [e1,e2,List.append_assoc]
 ·cases h
def hR (r:Lm.Rec) (X:Pt.Pat) (g:Bool) (s:List UInt8):Option (List Int) :=
 match mdl (aB r X g) (bB r X g) s with
 | none=>none
 | some m=>ung X.pr X.se (whl (sg r ⟨m.toArray⟩)) false (sg r ⟨m.toArray⟩)
def hY (r:Lm.Rec) (X:Pt.Pat) (g:Bool) (s:List UInt8):Bool:=match hR r X g s with | none=>false | some L=>decide (Tm.ofC L = 0)
def hD (r:Lm.Rec) (X:Pt.Pat) (g:Bool) (s:List UInt8):Tm.T:=match hR r X g s with | none=>Tm.T0 | some L=>Tm.ofR g L
theorem ofC_good {L:List Int} (h:Tm.ofC L = 0):Tm.okA L = true /\ Tm.has (Tm.bhd L) = false:=by
 unfold Tm.ofC at h;split at h
 ·next h1 =>
  refine ⟨h1,?_⟩;cases hb:Tm.has (Tm.bhd L)
  ·rfl
  ·rw [if_pos hb] at h;omega
 ·omega
theorem h_tx {r:Lm.Rec} {X:Pt.Pat} (h:It.LOk r X) {d:Tm.T} (hm:Tm.may d = true):hY r X d.g (tx r X d).data.toList = true /\ hD r X d.g (tx r X d).data.toList = d:=by
 obtain ⟨h1,h2⟩:=Tm.of_ats hm;have hc:Tm.ofC (Tm.ats d) = 0:=Tm.ofC_ok (Tm.okA_ats hm) h2;have hR1:hR r X d.g (tx r X d).data.toList = some (Tm.ats d):=by
  unfold hR;rw [tx_parts,mdl_of];dsimp only;rw [sg_mid h hm];have h3:=ung_back X.pr X.se (Tm.ats d) (fun k hk=>by have:=(Tm.okA_iff _).1 (Tm.okA_ats hm) k hk;omega);rw [ats_ahd hm] at h3;exact h3
 unfold hY hD;rw [hR1];dsimp only;refine ⟨by simp [hc],?_⟩;unfold Tm.ofR;rw [if_pos hc];exact h1
theorem h_inv {r:Lm.Rec} {X:Pt.Pat} (h:It.LOk r X) {g:Bool} {s:ByteArray} (hy:hY r X g s.data.toList = true):Tm.may (hD r X g s.data.toList) = true /\ (hD r X g s.data.toList).g = g /\ tx r X (hD r X g s.data.toList) = s:=by
 unfold hY at hy;unfold hD;unfold hR at hy |-;cases hmd:mdl (aB r X g) (bB r X g) s.data.toList with
 | none=>rw [hmd] at hy;cases hy
 | some m =>
  rw [hmd] at hy;dsimp only at hy |-;cases hun:ung X.pr X.se (whl (sg r ⟨m.toArray⟩)) false (sg r ⟨m.toArray⟩) with
  | none=>rw [hun] at hy;cases hy
  | some L =>
   rw [hun] at hy;dsimp only at hy |-;have hc:Tm.ofC L = 0:=by simpa using hy
   obtain ⟨h1,h2⟩:=ofC_good hc;have e1:Tm.ofR g L = Tm.ofD g L:=by unfold Tm.ofR;rw [if_pos hc]
   have hmay:=Tm.may_of g L h1 h2;rw [e1];refine ⟨hmay,rfl,?_⟩;have hS:=ung_all _ _ _ _ hun;have hat:Tm.ats (Tm.ofD g L) = L:=Tm.ats_of g L;have hmi:=midI_se h hmay;rw [hat] at hmi;have hge:∀ k ∈ sg r ⟨m.toArray⟩,0 <= k:=by
    have hn:=ung_nog _ _ _ _ _ _ hun;intro k hk;by_cases h11:k = 11
    ·omega
    ·have:k ∈ L:=by
      rw [hn];unfold nog;exact List.mem_filter.2 ⟨hk,by simp [h11]⟩
     exact ((Tm.okA_iff L).1 h1 k this).1
   have hb:=by_sy hge;have ht:=txt_sy _ (mid_gd h hmay);have hmm:mM r X (Tm.ofD g L) = m:=by
    unfold mM;rw [ht,hmi];have e2:((Tm.ofD g L).i.length:Nat) = (Tm.ahd L).length:=rfl;rw [e2,<- hS,<- hb]
   have hp:=tx_parts r X (Tm.ofD g L);rw [hmm] at hp;have hs:=mdl_inv hmd;apply ByteArray.ext;apply Array.ext';rw [hp,hs];rfl
theorem two_halves {r:Lm.Rec} {X:Pt.Pat} (h:It.LOk r X) (s:ByteArray) :
  (hY r X false s.data.toList || hY r X true s.data.toList) = isS r X s /\
  (hY r X false s.data.toList = true -> hD r X false s.data.toList = rd r X s) /\
  (hY r X false s.data.toList = false -> hY r X true s.data.toList = true -> hD r X true s.data.toList = rd r X s):=by
 have key:∀ g,hY r X g s.data.toList = true -> isS r X s = true /\ hD r X g s.data.toList = rd r X s:=fun g hy=>by
  obtain ⟨h1,h2,h3⟩:=h_inv h hy;have hs:isS r X s = true:=(isS_iff h s).2 ⟨_,h1,h3⟩;refine ⟨hs,tx_inj h h1 (rd_may r X s) ?_⟩;rw [h3,rd_shown hs]
 refine ⟨?_,fun hy=>(key false hy).2,fun _ hy=>(key true hy).2⟩;cases hs:isS r X s
 ·cases h1:hY r X false s.data.toList
  ·cases h2:hY r X true s.data.toList
   ·rfl
   ·rw [(key true h2).1] at hs;cases hs
  ·rw [(key false h1).1] at hs;cases hs
 ·obtain ⟨d,hm,rfl⟩:=(isS_iff h s).1 hs
  have:=(h_tx h hm).1;cases hg:d.g
  ·rw [hg] at this;rw [this];rfl
  ·rw [hg] at this;rw [this];simp
end Sx
namespace Sp
open Um Cm Gm Im Lo Sx Tm
theorem rd_len (r:Lm.Rec) (X:Pt.Pat) (s:ByteArray):(rd r X s).i.length <= s.size /\ (rd r X s).f.length <= s.size:=by
 unfold rd;split
 ·next hs =>
  unfold isS at hs;simp only [Bool.and_eq_true,decide_eq_true_eq] at hs;have e:cand r s = ofD (ngv (sg r s)) (atm (sg r s)):=(of_fit hs.1).1;have h1:=ats_len (cand r s);have h2:=atm_len (sg r s);have h3:=sg_len r s;rw [e] at h1 |-;rw [ats_of] at h1;omega
 ·exact ⟨Nat.zero_le _,Nat.zero_le _⟩
theorem itd_small {r:Lm.Rec} {X:Pt.Pat} (h:It.LOk r X) {d:T} (hm:may d = true) (l1:d.i.length <= 5000) (l2:d.f.length <= 5000):(itd r X d).length <= 15007 /\ (txI (itd r X d)).length <= 1000000:=by
 have h1:=tx_size h hm;have h2:=itm_len r X.pr X.se d (parP r (Ro.ahd d.g X)) (parP r (Ro.bhd d.g X));have h3:=(Ro.around_fact h.ok d.g).2.2.1;have h4:=(Ro.around_fact h.ok d.g).2.2.2;have e:(tx r X d).size = (txI (itd r X d)).length:=by unfold tx;simp [ByteArray.size]
 rw [e] at h1;unfold itd at h1 |-;have h5:64 * (2 * d.i.length + d.f.length + 7) <= 64 * 15007:=Nat.mul_le_mul_left _ (by omega);exact ⟨by omega,by omega⟩
end Sp
end
section
open Go.RowKit
namespace Sx
open Um Cm Gm Lo Lm
def lpC:List Int:=[36,35,44,35,35,48,46,48,48]
def lr:Rec:=⟨[101,110],[36,35,44,35,35,48,46,48,48],[108,97,116,110],[46],[44],[45],[],[]⟩
def lX:Pt.Pat:=⟨[(0,[36])],[],[(3,[]),(0,[36])],[],3,3,1,2,2⟩
theorem lp_eq:joinL lpC = lr.pat /\ Pt.parseC lpC = (lX,0):=by decide +kernel
theorem l_aff:(affs lX).all (fun A=>decide (A.length <= 10) && A.all (fun x=>decide (0 <= x.1 /\ x.1 <= 3) && (decide (x.2.length <= 10) && ((x.1 != 0 || Cm.plainB (Um.allL x.2)) && (x.1 == 0 || x.2 == []))))) = true:=by decide +kernel
theorem l_len:∀ A ∈ affs lX,(atx lr A).length <= 64:=by decide +kernel
theorem l_nz:0 <= Sm.nz lr.sys /\ lr.sys.length <= 16:=by decide +kernel
theorem l_s:symB lr.dec = true /\ symB lr.min = true /\ symB lr.grp = true:=by decide +kernel
theorem l_k:(∀ A ∈ affs lX,cnt 2 A = 0) /\ (∀ A ∈ affs lX,cnt 1 A = 0):=by decide +kernel
theorem l_sg:cnt 3 lX.pre = 0 /\ cnt 3 lX.suf = 0 /\ cnt 3 lX.npre + cnt 3 lX.nsuf = 1 /\ 0 <= lX.pr:=by decide +kernel
theorem l_cl:(affs lX).all (fun A=>(Gm.pcs (bs (atx lr A))).all fun c=>notin c (syms lr)) = true:=by decide +kernel
theorem l_syms:syms lr = syms liv:=by decide +kernel
theorem lr_ok:Ok lr lX where
 nam:=liv_ok.nam
 nam1:=liv_ok.nam1
 sg:=⟨l_sg.1,l_sg.2.1,l_sg.2.2.1⟩
 sys:=l_nz.1
 sysl:=l_nz.2
 dec:=l_s.1
 min:=l_s.2.1
 pr:=l_sg.2.2.2
 grp1:=fun _=>l_s.2.2
 grp0:=fun h=>absurd (show 0 < lX.pr by decide) h
 per:=.inr ⟨rfl,l_k.1⟩
 cur:=.inr ⟨rfl,l_k.2⟩
 aff:=fun A hA=>by
  have h:=List.all_eq_true.1 l_aff A hA;simp only [Bool.and_eq_true,decide_eq_true_eq,List.all_eq_true,Bool.or_eq_true,bne_iff_ne,beq_iff_eq] at h;refine ⟨h.1,fun x hx=>?_⟩;obtain ⟨h1,h2,h3,h4⟩:=h.2 x hx;exact ⟨h1,h2,fun h0=>h3.resolve_left (fun k=>k h0),fun h0=>h4.resolve_left h0⟩
 len:=l_len
 dis:=by rw [l_syms];exact liv_ok.dis
 ne:=fun i x h h11=>by rw [l_syms] at h;exact liv_ok.ne i x h h11
 cl:=fun x hx=>by
  unfold clus at hx;obtain ⟨A,hA,hxA⟩:=List.mem_flatMap.1 hx;exact of_notin (List.all_eq_true.1 (List.all_eq_true.1 l_cl A hA) x hxA)
theorem lr_few:It.fewB lX = true:=by decide +kernel
theorem lr_lok:It.LOk lr lX:=It.few_of lr_ok lr_few
theorem lr_par (u:World):Calls Tryz.prog 54 #[.string (bs lr.pat)] u fun e w'=>∃ v,e = .returned (.tuple #[v,.int .i64 0]) /\ Pg.PV w' u.heap.size v lX /\ Q u w':=by
 have h:=Pg.parse1 (cs:=lpC) (by decide +kernel) (by decide +kernel) (P:=[(0,36)]) (N:=[(4,35),(4,44),(4,35),(4,35),(4,48),(4,46),(4,48),(4,48)]) (S:=[]) (c:=false) (by decide +kernel) ⟨(by unfold Pt.okT;decide +kernel),(by unfold Pt.okT;decide +kernel),(by decide +kernel)⟩ (by decide +kernel) (by decide +kernel) (by decide +kernel) u;rw [lp_eq.1,lp_eq.2] at h;exact h
theorem lr_new (u:World):Calls Tryz.prog 29 #[recV lr] u fun e w'=>∃ g a b c d cl,e = .returned (.tuple #[.pointer (some ⟨g,0,none⟩),Value.nilIface]) /\ LB w' g lr lX a b c d cl /\ Q u w' :=
 (new_ok lr lX u lr_ok lr_par).mono fun e w' ⟨g,a,b,c,d,cl,h1,h2,_,h3⟩=>⟨g,a,b,c,d,cl,h1,h2,h3⟩
def ex1:ByteArray:=⟨#[36,48,49,44,50,51,52,46,53,48]⟩
def ex2:ByteArray:=⟨#[36,49,50,51,52]⟩
theorem ex1_shown:isS lr lX ex1 = true:=by decide +kernel
theorem ex1_rd:(rd lr lX ex1).g = false /\ (rd lr lX ex1).i = [0,1,2,3,4] /\ (rd lr lX ex1).s = true /\ (rd lr lX ex1).f = [5,0]:=by decide +kernel
theorem ex2_none:isS lr lX ex2 = false:=by decide +kernel
end Sx
end
end Go.Proofs.YtdjhkbholijnmaaGreatDoor
