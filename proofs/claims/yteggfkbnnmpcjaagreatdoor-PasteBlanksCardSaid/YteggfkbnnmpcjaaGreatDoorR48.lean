/- The document's own items of a draft. (and more) -/
import Derived.Test.YteggfkbnnmpcjaaGreatDoorR47
set_option linter.all false
set_option maxRecDepth 100000
set_option maxHeartbeats 8000000
namespace Go.Proofs.YteggfkbnnmpcjaaGreatDoor
section
open Go.RowKit
namespace It
open Um Im Lo Ro
theorem rdigit_ok {r:Lm.Rec} (h:0 <= Sm.nz r.sys) (x:Int) (h0:0 <= x) (h9:x <= 9) (u:World):Calls Tryz.prog 68 #[.string (Lm.bs r.sys),.int .i64 x] u fun e w'=>e = .returned (.string (Lm.dgt r x.toNat)) /\ Q u w':=by
 have h1:=Sr.digit_any (Lm.bs r.sys) x u h0 h9;rw [Lm.bs_list] at h1;rw [Ro.dgt_enc h x.toNat (by omega),show ((x.toNat:Nat):Int) = x from by omega];exact h1
theorem ritems_big (r:Lm.Rec) (X:Pt.Pat) (a b c d:Value) (g s:Bool) (e1 e2:Option Addr) (m1 m2 f1 f2:Nat) (I F:List Int) (w:World) (hO:Lm.Ok r X) (hL:Ro.LL w X a b c d) (hi:Lst w (.slice e1 m1 f1) I) (hf:Lst w (.slice e2 m2 f2) F) (k1:I.length = m1) (k2:F.length = m2) (l1:m1 <= 10000) (l2:m2 <= 10000) (hm:Tm.may ⟨g,I,s,F⟩ = true) (x1:X.pr <= 1000) (x2:X.se <= 1000) :
  Calls Tryz.prog 45 #[lV r X a b c d,.agg #[.bool g,.slice e1 m1 f1,.bool s,.slice e2 m2 f2]] w fun e w'=>∃ x,e = .returned x /\ OwnI 132 w' w.heap.size x (itm r X.pr X.se ⟨g,I,s,F⟩ (parP r (Ro.ahd g X)) (parP r (Ro.bhd g X))) /\ Q w w':=by
 have HAR:=Hd (fun u (q:Q w u)=>raround_any g r X a b c d u hO (hL.q q));have HPA:=Hd (fun u (q:Q w u) v l (hv:Pb.LstP u v l) (hl:l.length <= 100000)=>rparts_any r X a b c d v l u (hL.q q) hv hl);have hpf:=Ro.around_fact hO g;have HAT:=Hd (fun u (q:Q w u)=>Tr.atoms_any g s e1 e2 m1 m2 f1 f2 I F u (hi.q q) (hf.q q) k1 k2 (by omega) (by omega));have HIT:=Hd (show itm r X.pr X.se ⟨g,I,s,F⟩ (parP r (Ro.ahd g X)) (parP r (Ro.bhd g X)) = affI r (parP r (Ro.ahd g X)) ++ rowI r X.pr X.se (m1:Int) (Tm.ats ⟨g,I,s,F⟩) (Tm.ats ⟨g,I,s,F⟩).length ++ affI r (parP r (Ro.bhd g X)) by
  rw [itm_mid,<- row_all r X.pr X.se _ hm,k1])
 have hla:(Tm.ats ⟨g,I,s,F⟩).length = m1 + (Tm.sep s).length + m2:=by rw [Tm.ats_len];dsimp only;rw [k1,k2]
 have hsl:=Tm.sep_len s;have hE:I ++ Tm.sep s ++ F = Tm.ats ⟨g,I,s,F⟩:=rfl;rw [hE] at HAT;have hoa:=Tm.okA_ats hm;have hsy:=hO.sys;have HDG:=Hd (fun x (h0:0 <= x) (h9:x <= 9) u=>rdigit_ok (r:=r) hsy x h0 h9 u);have HEN:=Hd (fun l u (l0:-1000000 <= l) (l1:l <= 1000000)=>It.rends_any l X.pr X.se u l0 l1 (by omega) (by omega));have HRS:=Hd (fun k=>rowI_succ r X.pr X.se (m1:Int) (Tm.ats ⟨g,I,s,F⟩) k);have HRZ:=Hd (rowI_zero r X.pr X.se (m1:Int) (Tm.ats ⟨g,I,s,F⟩));have HRL:=Hd (fun k=>rowI_len r X.pr X.se (m1:Int) (Tm.ats ⟨g,I,s,F⟩) k);have HST:=Hd (show ∀ k,stpI r X.pr X.se (m1:Int) (Tm.ats ⟨g,I,s,F⟩) k = if (Tm.ats ⟨g,I,s,F⟩).getD k 0 = 10 then [(4,Lm.bs r.dec,(k:Int))] else dgE r ((Tm.ats ⟨g,I,s,F⟩).getD k 0) k :: (if endB ((m1:Int) - 1 - k) X.pr X.se = true then [(3,Lm.bs r.grp,-1)] else []) from fun _=>rfl)
 have HOA:=Hd (show ∀ k,k < (Tm.ats ⟨g,I,s,F⟩).length -> 0 <= (Tm.ats ⟨g,I,s,F⟩).getD k 0 /\ (Tm.ats ⟨g,I,s,F⟩).getD k 0 <= 10 from fun k hk=>by
  rw [List.getD_eq_getElem?_getD,List.getElem?_eq_getElem hk];exact (Tm.okA_iff _).1 hoa _ (List.getElem_mem hk))
 have HAL:=Hd (affI_len r (parP r (Ro.ahd g X)));obtain ⟨N,hN⟩:∃ N,N = m1 + (Tm.sep s).length + m2:=⟨_,rfl⟩;have hNb:N <= 20001:=by omega
 rw [<- hN] at hla HAT;rw [hla] at HIT HOA;have HLA:=Hd hla;clear hN hsl hE hoa hsy hla hm hi hf k1 k2 x1 x2;generalize Tm.ats ⟨g,I,s,F⟩ = L at *;obtain ⟨RES,hRES⟩:∃ y,y = itm r X.pr X.se ⟨g,I,s,F⟩ (parP r (Ro.ahd g X)) (parP r (Ro.bhd g X)):=⟨_,rfl⟩;rw [<- hRES] at HIT |-;clear hRES;generalize parP r (Ro.ahd g X) = P1 at *;generalize parP r (Ro.bhd g X) = P2 at *;have hp1:=hpf.2.2.1;have hp2:=hpf.2.2.2;have HP1:=Hd hp1;have HP2:=Hd hp2;clear hpf;obtain ⟨a1,a2,rfl⟩:=hL.1.shape;obtain ⟨b1,b2,rfl⟩:=hL.2.1.shape;obtain ⟨c1,c2,rfl⟩:=hL.2.2.1.shape;obtain ⟨d1,d2,rfl⟩:=hL.2.2.2.shape;clear hL hO hp1 hp2;unfold lV at *;generalize X.pre.length = n1 at *;generalize X.suf.length = n2 at *;generalize X.npre.length = n3 at *;generalize X.nsuf.length = n4 at *;generalize rowI r X.pr X.se (m1:Int) L = RW at *;generalize stpI r X.pr X.se (m1:Int) L = SW at *;generalize X.pr = p0 at *;generalize X.se = p1 at *;generalize X.mi = p2 at *;generalize X.mf = p3 at *;generalize X.xf = p4 at *;generalize Lm.bs r.nam = s0 at *;generalize Lm.bs r.pat = s1 at *;generalize Lm.bs r.sys = s2 at *;generalize Lm.bs r.dec = s3 at *;generalize Lm.bs r.grp = s4 at *;generalize Lm.bs r.min = s5 at *;generalize Lm.bs r.per = s6 at *;generalize Lm.bs r.cur = s7 at *;obtain ⟨A1,hA1⟩:∃ y,y = affI r P1:=⟨_,rfl⟩;obtain ⟨A2,hA2⟩:∃ y,y = affI r P2:=⟨_,rfl⟩;rw [<- hA1,<- hA2] at HIT;rw [<- hA1] at HAL;have HAE:=Hd hA1.symm;have HA2:=Hd hA2.symm;clear hA1 hA2;obtain ⟨y,hy⟩:∃ y,y = w.alloc (.cells #[.string s0,.string s1,.string s2,.string s3,.string s4,.string s5,.string s6,.string s7,.slice a1 n1 a2,.slice b1 n2 b2,.slice c1 n3 c2,.slice d1 n4 d2,.int .i64 p0,.int .i64 p1,.int .i64 p2,.int .i64 p3,.int .i64 p4] 31):=⟨_,rfl⟩;have hqy:Q w y:=by rw [hy];exact (Q.refl w).alloc _
 have hby:Bk y w.heap.size 31 [.string s0,.string s1,.string s2,.string s3,.string s4,.string s5,.string s6,.string s7,.slice a1 n1 a2,.slice b1 n2 b2,.slice c1 n3 c2,.slice d1 n4 d2,.int .i64 p0,.int .i64 p1,.int .i64 p2,.int .i64 p3,.int .i64 p4]:=by rw [hy];exact Bk.new _ _ _
 obtain ⟨z,hz⟩:∃ z,z = y.alloc (.cells #[.bool g,.slice e1 m1 f1,.bool s,.slice e2 m2 f2] 43):=⟨_,rfl⟩;have hqz:Q y z:=by rw [hz];exact (Q.refl y).alloc _
 have HQZ:=Hd (hqy.trans hqz);have HBZ:=Hd (hby.q hqz);have hdz:Bk z y.heap.size 43 [.bool g,.slice e1 m1 f1,.bool s,.slice e2 m2 f2]:=by rw [hz];exact Bk.new _ _ _
 have hsy:y.heap.size = w.heap.size + 1:=by rw [hy];simp
 rw [hsy] at hdz;have HDZ:=Hd hdz;have hz2:z = (w.alloc (.cells #[.string s0,.string s1,.string s2,.string s3,.string s4,.string s5,.string s6,.string s7,.slice a1 n1 a2,.slice b1 n2 b2,.slice c1 n3 c2,.slice d1 n4 d2,.int .i64 p0,.int .i64 p1,.int .i64 p2,.int .i64 p3,.int .i64 p4] 31)).alloc (.cells #[.bool g,.slice e1 m1 f1,.bool s,.slice e2 m2 f2] 43):=by rw [hz,hy]
 clear hqy hby hqz hdz hsy hz hy;go_enter Tryz.func45,Tryz.ntmps45
 go_upto_region 1 with fail
 rw [<- hz2];clear hz2;obtain ⟨bz,hbz⟩:∃ b,b = w.heap.size:=⟨_,rfl⟩;obtain ⟨bd,hbd⟩:∃ b,b = w.heap.size + 1:=⟨_,rfl⟩;rw [<- hbz] at HBZ;rw [<- hbd] at HDZ;rw [<- hbd,<- hbz];clear hbz hbd;have x0:=HDZ.out.cell 0 rfl;go_wp2_with (refine wpList_load_row (by rfl) 31 _ (by rfl) bz (by rfl) 31 #[.string s0,.string s1,.string s2,.string s3,.string s4,.string s5,.string s6,.string s7,.slice a1 n1 a2,.slice b1 n2 b2,.slice c1 n3 c2,.slice d1 n4 d2,.int .i64 p0,.int .i64 p1,.int .i64 p2,.int .i64 p3,.int .i64 p4] (0,0) _ HBZ.out Tryz.underlying31 rfl (by exact infoL) ?_)
 refine (HAR.out _ HQZ.out).mono ?_;rintro e w1 ⟨q1,q2,rfl,hu1,hu2,hq1⟩;obtain ⟨qa,qc,rfl,_,_⟩:=hu1.shape2;obtain ⟨qb,qd,rfl,_,_⟩:=hu2.shape2;have HU1:=Hd hu1;have HU2:=Hd hu2;have HQ1:=Hd (HQZ.out.trans hq1);have HBZ1:=Hd (HBZ.out.q hq1);have HDZ1:=Hd (HDZ.out.q hq1);have HQZ1:=Hd hq1;clear hu1 hu2 hq1 x0;have hpp1:=HP1.out;have hpp2:=HP2.out;go_wp2_with (refine wpList_load_row (by rfl) 31 _ (by rfl) bz (by rfl) 31 #[.string s0,.string s1,.string s2,.string s3,.string s4,.string s5,.string s6,.string s7,.slice a1 n1 a2,.slice b1 n2 b2,.slice c1 n3 c2,.slice d1 n4 d2,.int .i64 p0,.int .i64 p1,.int .i64 p2,.int .i64 p3,.int .i64 p4] (0,0) _ HBZ1.out Tryz.underlying31 rfl (by exact infoL) ?_)
 refine (HPA.out _ HQ1.out _ _ HU1.out (by omega)).mono ?_;rintro e w2 ⟨qx,rfl,hx2,hq2⟩;rw [HAE.out] at hx2;have HX2:=Hd hx2;have HQ2:=Hd (HQ1.out.trans hq2);have HQ12:=Hd hq2;have HQZ2:=Hd (HQZ1.out.trans hq2);have HDZ2:=Hd (HDZ1.out.q hq2);obtain ⟨M1,hM1⟩:∃ m,m = w1.heap.size:=⟨_,rfl⟩;rw [<- hM1] at hx2;have HM1:=Hd hM1;have HZM1:=Hd (show z.heap.size <= M1 by rw [hM1];exact HQZ1.out.le);have HXB:=Hd hx2;obtain ⟨xa,xc,rfl⟩:=hx2.shape;clear hx2 hq2 hM1 HU1;have d0:=HDZ2.out.cell 0 rfl;have d1:=HDZ2.out.cell 1 rfl;have d2:=HDZ2.out.cell 2 rfl;have d3:=HDZ2.out.cell 3 rfl;go_wp2_with fail
 refine (HAT.out _ HQ2.out).mono ?_;rintro e w3 ⟨ta,tc,rfl,ht3,hq3⟩;clear d0 d1 d2 d3;obtain ⟨M2,hM2⟩:∃ m,m = w2.heap.size:=⟨_,rfl⟩;have HM23:=Hd (show M2 + 0 <= w3.heap.size by rw [hM2];exact hq3.le);rw [<- hM2] at ht3;have HQ3:=Hd (HQ2.out.trans hq3);have HQ23:=Hd hq3;have HQZ3:=Hd (HQZ2.out.trans hq3);have HZM:=Hd (show M1 <= w3.heap.size by rw [HM1.out];exact Nat.le_trans HQ12.out.le HQ23.out.le);have HX3:=Hd (HXB.out.q hq3);have HXR:=Hd (show ∀ j,(Value.slice xa (A1.length) xc).ownBlock = some j -> j < M2 \/ w3.heap.size <= j from fun j h=>.inl (by rw [hM2];exact (HX2.out.lt j h).2));have HTV:=Hd (fun u (q:Gap M1 M2 w3 u) k (h:k < N)=>((ht3.gap q (fun j hj=>.inr (by have:=(ht3.lt j hj).1;omega))).lst).cellOf HLA.out h);have htc:=ht3.lst.form0 HLA.out;obtain ⟨_,_,hv,htn,htm⟩:=htc;cases hv;have HBG:=Hd (fun u (q:Gap M1 M2 w3 u)=>bk_gap (HBZ.out.q HQZ3.out) q (.inl (Nat.lt_of_lt_of_le HBZ.out.lt HZM1.out)));have HDG2:=Hd (fun u (q:Gap M1 M2 w3 u)=>bk_gap (HDZ.out.q HQZ3.out) q (.inl (Nat.lt_of_lt_of_le HDZ.out.lt HZM1.out)));unfold maxLen at htm;clear ht3 hq3 hM2 HBZ1 HDZ1 HDZ2 HQ1 HQ2 HQZ1 HQZ2 HX2 HXB;go_wp2_with fail
 go_loopw [7,9] (fun x i wr=>∃ k:Nat,i = .int .i64 k /\ k <= N /\ OwnI 132 wr M1 x (A1 ++ RW k) /\ Gap M1 M2 w3 wr /\ (∀ j,x.ownBlock = some j -> j < M2 \/ w3.heap.size <= j)) (fun _ i _=>N - (intOf i).toNat)
 case atStart=>exact ⟨0,rfl,by omega,by rw [HRZ.out,List.append_nil];exact HX3.out,Gap.refl _ _ _,HXR.out⟩
 case round =>
  obtain ⟨k,rfl,hk,ho,hgp,hrow⟩:=hrel;have hrl:=HRL.out k;have hol:=ho.lst;have HG:=Hd hgp;have HROW:=Hd hrow;obtain ⟨ol,hol2⟩:∃ n,n = (A1 ++ RW k).length:=⟨_,rfl⟩;have hob:ol <= 100000:=by rw [hol2,List.length_append,HAL.out];have:=HP1.out;omega
  obtain ⟨oa,oc,rfl,_,_⟩:=hol.form0 hol2.symm;have HOL:=Hd hol2;have HO:=Hd ho;have hle:M1 <= wr.heap.size:=Nat.le_trans HZM.out hgp.size;clear hol hol2 ho hrl hrow;by_cases hlt:k < N
  ·obtain ⟨gg,off,cap,hvv,hg,hnc,hcm,c1'⟩:=HTV.out wr hgp k hlt
   cases hvv;have hbd:=HOA.out k hlt;have HSK:=Hd (HST.out k);have HRK:=Hd (HRS.out k);have HEK:=Hd (fun u=>HEN.out ((m1:Int) - 1 - k) u (by omega) (by omega));have HCX:=Hd (show ∀ u,Gap M1 M2 w3 u -> u.cell? ⟨gg,off + k,none⟩ = some (.int .i64 (L.getD k 0)) from fun u hu=>by
    obtain ⟨_,_,_,h1,_,_,_,h2⟩:=HTV.out u hu k hlt;cases h1;exact h2)
   generalize L.getD k 0 = x at *;have HBR:=Hd (HBG.out _ hgp);clear hgp;by_cases h10:x = 10
   ·subst h10
    have HK2:=Hd (show A1 ++ RW (k + 1) = (A1 ++ RW k) ++ [(4,s3,(k:Int))] by rw [HRK.out,HSK.out,if_pos rfl,List.append_assoc]);have l3:=HBR.out.cell 3 rfl;clear HSK HRK;go_wp2_with (at_builtin;refine Im.push elR HO.out rfl _ _ rfl 4 s3 (k:Int) (by rfl) (by rfl) (by rw [<- HOL.out];omega) hle ?_)
    intro v' w5 ho5 hg5 hat5;have HG5:=Hd (Gap_grow HG.out hg5 (fun j h=>by have h1:=(HO.out.lt j h).1;have h2:=HROW.out j h;omega));have HRW5:=Hd (show ∀ j,v'.ownBlock = some j -> j < M2 \/ w3.heap.size <= j from fun j h=>by
     rcases hat5 with hat | hat
     ·exact HROW.out j (hat ▸ h)
     ·rw [hat] at h;have h1:=Option.some.inj h;have h2:=Gap.size HG.out;omega)
    have HO5:=Hd (show OwnI 132 w5 M1 v' (A1 ++ RW (k + 1)) by rw [HK2.out];simpa [List.append_assoc] using ho5);clear ho5 hg5 hat5 l3 c1';go_wp2_with fail
    exact ⟨⟨k + 1,by go_num,by omega,HO5.out,HG5.out,HRW5.out⟩,by simp [intOf];omega⟩
   ·have h10b:(x == 10) = false:=by rw [beq_eq_false_iff_ne];exact h10
    have HDX:=Hd (fun u=>HDG.out x hbd.1 (by omega) u);have HDE:=Hd (show dgE r x (k:Int) = (2,Lm.dgt r x.toNat,(k:Int)) from rfl);rw [HDE.out] at HSK;generalize Lm.dgt r x.toNat = D at *;clear HDE;have OWN:=HO;go_upto_region 9 with fail
    clear c1';refine wp_region_held_drew (S:=fun u=>Gap M1 M2 w3 u) (by kernel_rfl) (by exact HG.out.trans ((Q.refl wr).drew.gap _ _)) (fun hHeld=>?_);have hS:Gap M1 M2 w3 wr.drew:=hHeld;clear hHeld;have hq:Q wr wr.drew:=(Q.refl _).drew;have OWN:=Hd (OWN.out.q hq);clear hq;generalize wr.drew = yR1x0 at *;change wpAnyH _ _ _ _ _ _ #[ff,ff,ff,ff,ff,ff,ff,ff,ff,ff,ff,ff,ff,ff] _ _;refine tk 0 (by simp only [gA,gB,gC];rfl) (by first | kernel_rfl | rfl) (fun uz _=>by go_simp;try with_reducible rfl) pq hS ?_;try simp only [Act.put,sA,sB,sC]
    refine tk 1 (by simp only [gA,gB,gC];rfl) (by first | kernel_rfl | rfl) (fun uz _=>by go_simp;try with_reducible rfl) pq hS ?_;try simp only [Act.put,sA,sB,sC]
    refine tk 2 (by simp only [gA,gB,gC];rfl) (by first | kernel_rfl | rfl) (fun uz _=>by go_simp;try with_reducible rfl) pq hS ?_;try simp only [Act.put,sA,sB,sC]
    refine tk 3 (by simp only [gA,gB,gC];rfl) (by first | kernel_rfl | rfl) (fun uz hSw=>by (try dsimp only at hSw);have q:=(HBG.out _ hSw).cell 2 rfl;go_simp;try with_reducible rfl) pq hS ?_;try simp only [Act.put,sA,sB,sC]
    refine tk 4 (by simp only [gA,gB,gC];rfl) (by first | kernel_rfl | rfl) (fun uz _=>by go_simp;try with_reducible rfl) pq hS ?_;try simp only [Act.put,sA,sB,sC]
    refine tk 5 (by simp only [gA,gB,gC];rfl) (by first | kernel_rfl | rfl) (fun uz _=>by go_simp;try with_reducible rfl) pq hS ?_;try simp only [Act.put,sA,sB,sC]
    refine tk 6 (by simp only [gA,gB,gC];rfl) (by first | kernel_rfl | rfl) (fun uz _=>by go_simp;try with_reducible rfl) pq hS ?_;try simp only [Act.put,sA,sB,sC]
    refine tk 7 (by simp only [gA,gB,gC];rfl) (by first | kernel_rfl | rfl) (fun uz hSw=>by (try dsimp only at hSw);have q:=HCX.out _ hSw;go_simp;try with_reducible rfl) pq hS ?_;try simp only [Act.put,sA,sB,sC]
    refine tk 9 (by simp only [gA,gB,gC];rfl) (by first | kernel_rfl | rfl) (fun uz _=>by go_simp;try with_reducible rfl) pq hS ?_;try simp only [Act.put,sA,sB,sC]
    refine wpAnyH_ready (rs:=[8]) (by kernel_rfl) (by simp) ?_;refine ar (by (try simp only [gA,gB,gC]);rfl) fun K hK=>?_;go_simp
    refine (HDX.out _).mono ?_;rintro e yR1x10 ⟨rfl,hq⟩;try (go_wp2_with fail)
    have OWN:=Hd (OWN.out.q hq);have hS2:=Gap.trans hS (Q.gap hq _ _);refine hK.out _ _ (by exact hS2) (fun hHeld=>?_);clear hK K hHeld hS hq;have hS:=hS2;clear hS2;try simp only [Act.put,sA,sB,sC]
    refine tk 10 (by simp only [gA,gB,gC];rfl) (by first | kernel_rfl | rfl) (fun uz _=>by go_simp;try with_reducible rfl) pq hS ?_;try simp only [Act.put,sA,sB,sC]
    refine wpAnyH_ready (rs:=[11]) (by kernel_rfl) (by simp) ?_;refine ar (by (try simp only [gA,gB,gC]);rfl) fun K hK=>?_;go_simp
    have hq:=(Q.refl yR1x10).alloc (.cells #[.int .i64 2,.string D,.int .i64 (k:Int)] 132);have HBX:=Hd (Bk.new yR1x10 132 [.int .i64 2,.string D,.int .i64 (k:Int)]);have HW_bX:=Hd (Gap.size hS);have OWN:=Hd (OWN.out.q hq);have hS2:=Gap.trans hS (Q.gap hq _ _);refine hK.out _ _ (by exact hS2) (fun hHeld=>?_);clear hK K hHeld hS hq;have hS:=hS2;clear hS2;generalize yR1x10.alloc (.cells #[.int .i64 2,.string D,.int .i64 (k:Int)] 132) = yR1x12 at *;generalize yR1x10.heap.size = bX at *;try simp only [Act.put,sA,sB,sC]
    refine wpAnyH_ready (rs:=[12]) (by kernel_rfl) (by simp) ?_;refine ar (by (try simp only [gA,gB,gC]);rfl) fun K hK=>?_;refine Im.pushR elR OWN.out (by rfl) _ _ (by rfl) 2 D (k:Int) (by rfl) (by rfl) (HBX.out.cell 0 rfl) (HBX.out.cell 1 rfl) (HBX.out.cell 2 rfl) (by rw [<- HOL.out];omega) (Nat.le_trans HZM.out (Gap.size hS)) ?_;intro v' yR1x13 ho hg hat;have hS2:=Gap_grow hS hg (fun j h=>by have h1:=(OWN.out.lt j h).1;have h2:=HROW.out j h;omega);have HRW2:=Hd (show ∀ j,v'.ownBlock = some j -> j < M2 \/ w3.heap.size <= j from fun j h=>by
     rcases hat with hat | hat
     ·exact HROW.out j (hat ▸ h)
     ·rw [hat] at h;have h1:=Option.some.inj h;have h2:=Gap.size hS;omega)
    have HO6:=Hd ho;clear ho hg hat;refine hK.out _ _ (by exact hS2) (fun hHeld=>?_);clear hK K hHeld hS;have hS:=hS2;clear hS2;try simp only [Act.put,sA,sB,sC]
    refine tk 13 (by simp only [gA,gB,gC];rfl) (by first | kernel_rfl | rfl) (fun uz _=>by go_simp;try with_reducible rfl) pq hS ?_;try simp only [Act.put,sA,sB,sC]
    refine wpAnyH_done (by kernel_rfl) ?_ _;have HG6:=Hd hS;clear hS;have hle6:M1 <= yR1x13.heap.size:=Nat.le_trans HZM.out (Gap.size HG6.out);cases heb:endB ((m1:Int) - 1 - k) p0 p1
    ·have HK2:=Hd (show A1 ++ RW (k + 1) = (A1 ++ RW k) ++ [(2,D,(k:Int))] by rw [HRK.out,HSK.out,if_neg h10,heb,List.append_assoc];rfl)
     have HB6:=Hd (HBG.out _ HG6.out);have HD6:=Hd (HDG2.out _ HG6.out);have q12:=HB6.out.cell 12 rfl;have q13:=HB6.out.cell 13 rfl;have q1:=HD6.out.cell 1 rfl;go_wp2_with fail
     refine (HEK.out _).mono ?_;rw [heb];rintro e w7 ⟨rfl,rfl⟩;clear heb q12 q13 q1;have HO7:=Hd (show OwnI 132 yR1x13 M1 v' (A1 ++ RW (k + 1)) by rw [HK2.out];exact HO6.out);go_wp2_with fail
     exact ⟨⟨k + 1,by go_num,by omega,HO7.out,HG6.out,HRW2.out⟩,by simp [intOf];omega⟩
    ·have HK2:=Hd (show A1 ++ RW (k + 1) = (A1 ++ RW k) ++ [(2,D,(k:Int))] ++ [(3,s4,-1)] by rw [HRK.out,HSK.out,if_neg h10,heb,List.append_assoc,List.append_assoc];rfl)
     have HB6:=Hd (HBG.out _ HG6.out);have HD6:=Hd (HDG2.out _ HG6.out);have q12:=HB6.out.cell 12 rfl;have q13:=HB6.out.cell 13 rfl;have q4:=HB6.out.cell 4 rfl;have q1:=HD6.out.cell 1 rfl;go_wp2_with fail
     refine (HEK.out _).mono ?_;rw [heb];rintro e w7 ⟨rfl,rfl⟩;clear heb q12 q13 q1;go_wp2_with (at_builtin;refine Im.push elR HO6.out rfl _ _ rfl 3 s4 (-1) (by rfl) (by rfl) (by rw [List.length_append,<- HOL.out];simp;omega) hle6 ?_)
     intro v8 w8 ho8 hg8 hat8;have HO8:=Hd (show OwnI 132 w8 M1 v8 (A1 ++ RW (k + 1)) by rw [HK2.out];simpa [List.append_assoc] using ho8);have HG8:=Hd (Gap_grow HG6.out hg8 (fun j h=>by have h1:=(HO6.out.lt j h).1;have h2:=HRW2.out j h;omega));have HRW8:=Hd (show ∀ j,v8.ownBlock = some j -> j < M2 \/ w3.heap.size <= j from fun j h=>by
      rcases hat8 with hat | hat
      ·exact HRW2.out j (hat ▸ h)
      ·rw [hat] at h;have h1:=Option.some.inj h;have h2:=Gap.size HG6.out;omega)
     clear ho8 hg8 hat8 q4;go_wp2_with fail
     exact ⟨⟨k + 1,by go_num,by omega,HO8.out,HG8.out,HRW8.out⟩,by simp [intOf];omega⟩
  ·obtain rfl:k = N:=by omega
   have HZR:=Hd (gap_q2 HQZ3.out HZM1.out HG.out);have HQR:=Hd (HQZ.out.trans HZR.out);have HBR:=Hd (HBG.out _ hgp);have HU2R:=Hd (show Pb.LstP wr (Value.slice qb (P2.length) qd) P2 from HU2.out.q (gap_q2 (HQ12.out.trans HQ23.out) (Nat.le_of_eq HM1.out.symm) hgp));clear hgp;go_wp2_with (refine wpList_load_row (by rfl) 31 _ (by rfl) bz (by rfl) 31 #[.string s0,.string s1,.string s2,.string s3,.string s4,.string s5,.string s6,.string s7,.slice a1 n1 a2,.slice b1 n2 b2,.slice c1 n3 c2,.slice d1 n4 d2,.int .i64 p0,.int .i64 p1,.int .i64 p2,.int .i64 p3,.int .i64 p4] (0,0) _ HBR.out Tryz.underlying31 rfl (by exact infoL) ?_)
   refine (HPA.out _ HQR.out _ _ HU2R.out (by omega)).mono ?_;rintro e w9 ⟨q9,rfl,hx9,hq9⟩;rw [HA2.out] at hx9;have HX9:=Hd hx9.lst;have HO9:=Hd (HO.out.q hq9);have HZ9:=Hd (HZR.out.trans hq9);have hle9:M1 <= w9.heap.size:=Nat.le_trans hle hq9.le;obtain ⟨ya,yc,rfl⟩:=hx9.shape;have HA2L:=Hd (show A2.length = P2.length by rw [<- HA2.out,affI_len]);clear hx9 hq9;go_wp2_with (at_builtin;refine Im.pushl elR HO9.out HX9.out rfl _ _ rfl (by rfl) (by rfl) (by rw [<- HOL.out,HA2L.out];omega) hle9 ?_)
   intro v8 w8 ho8 hg8 hat8;have HO8:=Hd (show OwnI 132 w8 w.heap.size v8 RES by rw [HIT.out];have h9:=ho8.mono (Nat.le_trans HQZ.out.le HZM1.out);simpa [List.append_assoc] using h9);have HQ8:=Hd (HQZ.out.trans (HZ9.out.grown hg8 (fun j h=>Nat.le_trans HZM1.out (HO9.out.lt j h).1)));clear ho8 hg8 hat8;go_wp2_with fail
   go_ret
   exact ⟨_,rfl,HO8.out,HQ8.out⟩
end It
end
section
namespace Sx
open Um Cm Gm Im
def sg (r:Lm.Rec) (s:ByteArray):List Int:=(pcs s).map (Lm.sgn r)
def isA (k:Int):Bool:=decide (0 <= k /\ k <= 10)
def atm (l:List Int):List Int:=l.filter isA
theorem atm_app (a b:List Int):atm (a ++ b) = atm a ++ atm b:=by unfold atm;rw [List.filter_append]
theorem pcs_flat {α:Type} (f:α -> List UInt8):∀ l:List α,(∀ x ∈ l,pE (f x)) -> pcs ⟨(l.flatMap f).toArray⟩ = l.flatMap fun x=>pcs ⟨(f x).toArray⟩
 | [],_=>pcs_emp
 | x :: l,h=>by
  have ih:=pcs_flat f l (fun y hy=>h y (List.mem_cons_of_mem _ hy));have hr:=pE_flat f l (fun y hy=>h y (List.mem_cons_of_mem _ hy));rw [List.flatMap_cons,List.flatMap_cons,<- ih];rcases h x List.mem_cons_self with h1 | h1
  ·rw [h1,List.nil_append]
   show _ = pcs ⟨#[]⟩ ++ _;rw [pcs_emp,List.nil_append]
  ·rcases hr with h2 | h2
   ·rw [h2,List.append_nil]
    show _ = _ ++ pcs ⟨#[]⟩;rw [pcs_emp,List.append_nil]
   ·rw [bs_app]
    exact pln_pcs (by simpa using h1) (by simpa using h2)
theorem pcs_one {x:ByteArray} (h:(pcs x).length = 1):pcs x = [x]:=by
 obtain ⟨p,hp⟩:=List.length_eq_one_iff.1 h;have h1:=pcs_all x;rw [hp] at h1 |-;simp only [List.flatMap_cons,List.flatMap_nil,List.append_nil] at h1;have:p = x:=by
  apply ByteArray.ext;apply Array.ext';exact h1
 rw [this]
theorem out_sgn {r:Lm.Rec} {X:Pt.Pat} (hO:Lm.Ok r X) {c:ByteArray} (hc:c ∈ Lm.clus r X):Lm.sgn r c = -1:=by
 unfold Lm.sgn;split
 ·rfl
 ·exact Lm.plc_none _ 0 (hO.cl c hc)
theorem atx_sgn {r:Lm.Rec} {X:Pt.Pat} (h:It.LOk r X) {A:List Pc.E} (hA:A ∈ Lm.affs X) (B:List Pc.E) (hB:∀ x ∈ B,x ∈ A):∀ c ∈ pcs (Lm.bs (Lm.atx r B)),Lm.sgn r c = -1:=by
 intro c hc;have e:∀ D:List Pc.E,(∀ x ∈ D,x ∈ A) -> pcs (Lm.bs (Lm.atx r D)) = D.flatMap fun x=>pcs (Lm.bs (Lm.ptx r x)):=fun D hD=>pcs_flat (Lm.ptx r) D fun x hx=>ptx_pE h hA (hD x hx);rw [e B hB] at hc;obtain ⟨x,hx,hcx⟩:=List.mem_flatMap.1 hc;refine out_sgn h.ok ?_;unfold Lm.clus;refine List.mem_flatMap.2 ⟨A,hA,?_⟩;rw [e A (fun _ h=>h)];exact List.mem_flatMap.2 ⟨x,hB x hx,hcx⟩
def se (r:Lm.Rec) (e:E):List Int:=(pcs e.2.1).map (Lm.sgn r)
theorem sg_tx (r:Lm.Rec) (l:List E) (h:∀ e ∈ l,okT e.2.1):sg r ⟨(txI l).toArray⟩ = l.flatMap (se r):=by
 unfold sg se;rw [(pcs_tx l fun e he=>(h e he).1).1,List.map_flatMap]
def Gd (r:Lm.Rec) (e:E):Prop:=(e.1 = 0 /\ ∀ k ∈ se r e,k = -1) \/ (e.1 = 1 /\ se r e = [12]) \/ (e.1 = 2 /\ ∃ d,0 <= d /\ d <= 9 /\ se r e = [d]) \/ (e.1 = 3 /\ se r e = [11]) \/ (e.1 = 4 /\ se r e = [10])
theorem one_se {r:Lm.Rec} {x:ByteArray} {k:Int} (h1:(pcs x).length = 1) (h2:Lm.sgn r x = k) (a b:Int):se r (a,x,b) = [k]:=by
 unfold se;dsimp only;rw [pcs_one h1];simp [h2]
theorem sym_one {l:List UInt8} (h:Lm.symB l = true):(pcs (Lm.bs l)).length = 1:=(Ro.one_of h).1
theorem min_se {r:Lm.Rec} {X:Pt.Pat} (h:It.LOk r X) (a b:Int):se r (a,Lm.bs r.min,b) = [12]:=one_se (sym_one h.ok.min) (sgn_at h.ok (i:=12) rfl (by omega)) a b
theorem dec_se {r:Lm.Rec} {X:Pt.Pat} (h:It.LOk r X) (a b:Int):se r (a,Lm.bs r.dec,b) = [10]:=one_se (sym_one h.ok.dec) (sgn_at h.ok (i:=10) rfl (by omega)) a b
theorem grp_se {r:Lm.Rec} {X:Pt.Pat} (h:It.LOk r X) (hp:0 < X.pr) (a b:Int):se r (a,Lm.bs r.grp,b) = [11]:=by
 have hs:=h.ok.grp1 hp;refine one_se (sym_one hs) ?_ a b;unfold Lm.sgn;have hne:=pln_ne (sym_pln hs).1;have hz:¬ (Lm.bs r.grp).size = 0:=by
  rw [Lm.bs_size];have:=List.length_pos_iff.2 hne;omega
 rw [if_neg hz,Lm.plc_nodup _ 0 11 _ h.ok.dis rfl];rfl
theorem dig_one:∀ p ∈ Sm.tab,∀ d:Nat,d < 10 -> (begL (enc (p.2 + (d:Int)))).length = 1:=by decide +kernel
theorem dgt_one {r:Lm.Rec} {X:Pt.Pat} (h:It.LOk r X) (x:Int) (h0:0 <= x) (h9:x <= 9):(pcs (Lm.dgt r x.toNat)).length = 1:=by
 rcases Sm.nz_cases r.sys with hn | hn
 ·have:=h.ok.sys;omega
 ·have h1:=dig_one _ hn x.toNat (by omega)
  obtain ⟨_,h2,_⟩:=dig_cls _ hn x.toNat (by omega);dsimp only at h1 h2;rw [Ro.dgt_enc h.ok.sys x.toNat (by omega),pcs_length,encB_list _ h2];exact h1
theorem dgt_se {r:Lm.Rec} {X:Pt.Pat} (h:It.LOk r X) (x:Int) (h0:0 <= x) (h9:x <= 9) (a b:Int):se r (a,Lm.dgt r x.toNat,b) = [x]:=by
 refine one_se (dgt_one h x h0 h9) ?_ a b;rw [sgn_at h.ok (dgt_at r x.toNat (by omega)) (by omega)];omega
theorem aff_gd {r:Lm.Rec} {X:Pt.Pat} (h:It.LOk r X) {A:List Pc.E} (hA:A ∈ Lm.affs X) {e:E} (he:e ∈ affI r (Lo.parP r A)):Gd r e:=by
 obtain ⟨p,hp,rfl⟩:=List.mem_map.1 he;unfold affE;split
 ·exact .inr (.inl ⟨rfl,min_se h _ _⟩)
 ·next hp1 =>
  rcases parP_mem hp with h1 | ⟨B,h1,h2,_⟩
  ·exact absurd h1 hp1
  ·refine .inl ⟨rfl,fun k hk=>?_⟩
   unfold se at hk;dsimp only at hk;rw [h1] at hk;obtain ⟨c,hc,rfl⟩:=List.mem_map.1 hk;exact atx_sgn h hA B h2 c hc
theorem grp_gd {r:Lm.Rec} {X:Pt.Pat} (h:It.LOk r X) {l:Int} {e:E} (he:e ∈ grpI r l X.pr X.se):Gd r e:=by
 unfold grpI at he;split at he
 ·next hb =>
  simp only [List.mem_cons,List.not_mem_nil,or_false] at he;subst he;refine .inr (.inr (.inr (.inl ⟨rfl,grp_se h ?_ _ _⟩)));unfold endB at hb;simp only [Bool.and_eq_true,decide_eq_true_eq] at hb;omega
 ·cases he
theorem wh_gd {r:Lm.Rec} {X:Pt.Pat} (h:It.LOk r X) {I:List Int} (hI:Dm.okD I):∀ k,∀ e ∈ whI r X.pr X.se I k,Gd r e
 | 0,e,he=>by cases he
 | k + 1,e,he=>by
  rw [whI_succ] at he;rcases List.mem_append.1 he with he | he
  ·exact wh_gd h hI k e he
  ·rcases List.mem_cons.1 he with rfl | he
   ·have hd:=digit_at hI k
    exact .inr (.inr (.inl ⟨rfl,_,hd.1,hd.2,dgt_se h _ hd.1 hd.2 _ _⟩))
   ·exact grp_gd h he
theorem re_gd {r:Lm.Rec} {X:Pt.Pat} (h:It.LOk r X) {F:List Int} (hF:Dm.okD F) (n:Nat):∀ k,∀ e ∈ reI r n F k,Gd r e
 | 0,e,he=>by
  rw [reI_zero] at he;simp only [List.mem_cons,List.not_mem_nil,or_false] at he;subst he;exact .inr (.inr (.inr (.inr ⟨rfl,dec_se h _ _⟩)))
 | k + 1,e,he=>by
  rw [reI_succ] at he;rcases List.mem_append.1 he with he | he
  ·exact re_gd h hF n k e he
  ·simp only [List.mem_cons,List.not_mem_nil,or_false] at he
   subst he;have hd:=digit_at hF k;exact .inr (.inr (.inl ⟨rfl,_,hd.1,hd.2,dgt_se h _ hd.1 hd.2 _ _⟩))
def itd (r:Lm.Rec) (X:Pt.Pat) (d:Tm.T):List E:=itm r X.pr X.se d (Lo.parP r (Ro.ahd d.g X)) (Lo.parP r (Ro.bhd d.g X))
theorem itm_gd {r:Lm.Rec} {X:Pt.Pat} (h:It.LOk r X) {d:Tm.T} (hm:Tm.may d = true):∀ e ∈ itd r X d,Gd r e:=by
 obtain ⟨hI,hF,_⟩:=Tm.may_dig hm;intro e he;unfold itd itm at he;have hm1:Ro.ahd d.g X ∈ Lm.affs X:=by cases d.g <;> simp [Ro.ahd,Lm.affs]
 have hm2:Ro.bhd d.g X ∈ Lm.affs X:=by cases d.g <;> simp [Ro.bhd,Lm.affs]
 rcases List.mem_append.1 he with he | he
 ·rcases List.mem_append.1 he with he | he
  ·rcases List.mem_append.1 he with he | he
   ·exact aff_gd h hm1 he
   ·exact wh_gd h hI _ e he
  ·unfold resI at he
   split at he
   ·exact re_gd h hF _ _ e he
   ·cases he
 ·exact aff_gd h hm2 he
def tx (r:Lm.Rec) (X:Pt.Pat) (d:Tm.T):ByteArray:=⟨(txI (itd r X d)).toArray⟩
theorem sg_itd {r:Lm.Rec} {X:Pt.Pat} (h:It.LOk r X) {d:Tm.T} (hm:Tm.may d = true):sg r (tx r X d) = (itd r X d).flatMap (se r) :=
 sg_tx r _ (itm_okT h (Tm.may_dig hm).1 (Tm.may_dig hm).2.1 d.g)
theorem atm_flat {r:Lm.Rec} {l:List E} (h:∀ e ∈ l,Gd r e):atm (l.flatMap (se r)) = (l.filter atB).flatMap (se r):=by
 induction l with
 | nil=>rfl
 | cons e l ih =>
  have ih:=ih (fun x hx=>h x (List.mem_cons_of_mem _ hx));rw [List.flatMap_cons,atm_app,ih];rcases h e List.mem_cons_self with ⟨h1,h2⟩ | ⟨h1,h2⟩ | ⟨h1,d,h3,h4,h2⟩ | ⟨h1,h2⟩ | ⟨h1,h2⟩
  ·have hb:atB e = false:=by unfold atB;rw [h1];rfl
   rw [List.filter_cons_of_neg (by rw [hb];simp)];have:atm (se r e) = []:=by
    unfold atm;rw [List.filter_eq_nil_iff];intro k hk;rw [h2 k hk];decide
   rw [this,List.nil_append]
  ·have hb:atB e = false:=by unfold atB;rw [h1];rfl
   rw [List.filter_cons_of_neg (by rw [hb];simp),h2];rfl
  ·have hb:atB e = true:=by unfold atB;rw [h1];rfl
   rw [List.filter_cons_of_pos hb,List.flatMap_cons,h2];have:atm [d] = [d]:=by
    unfold atm isA;simp;omega
   rw [this]
  ·have hb:atB e = false:=by unfold atB;rw [h1];rfl
   rw [List.filter_cons_of_neg (by rw [hb];simp),h2];rfl
  ·have hb:atB e = true:=by unfold atB;rw [h1];rfl
   rw [List.filter_cons_of_pos hb,List.flatMap_cons,h2];rfl
theorem atE_se {r:Lm.Rec} {X:Pt.Pat} (h:It.LOk r X) {L:List Int} (hL:Tm.okA L = true) (j:Nat) (hj:j < L.length):se r (atE r L j) = [L.getD j 0]:=by
 have hb:=(Tm.okA_iff L).1 hL (L.getD j 0) (by rw [List.getD_eq_getElem?_getD,List.getElem?_eq_getElem hj];exact List.getElem_mem hj);unfold atE;by_cases h10:L.getD j 0 = 10
 ·rw [if_pos h10,dec_se h,h10]
 ·rw [if_neg h10]
  exact dgt_se h _ hb.1 (by omega) _ _
theorem flat_congr {α β:Type} (f g:α -> List β):∀ l:List α,(∀ x ∈ l,f x = g x) -> l.flatMap f = l.flatMap g
 | [],_=>rfl
 | x :: l,h=>by rw [List.flatMap_cons,List.flatMap_cons,h x List.mem_cons_self,flat_congr f g l fun y hy=>h y (List.mem_cons_of_mem _ hy)]
theorem range_flat (L:List Int):∀ n,n <= L.length -> (List.range n).flatMap (fun j=>[L.getD j 0]) = L.take n
 | 0,_=>rfl
 | n + 1,h=>by
  rw [List.range_succ,List.flatMap_append,range_flat L n (by omega),List.take_add_one,List.getElem?_eq_getElem (by omega)];simp [List.getD_eq_getElem?_getD,List.getElem?_eq_getElem (show n < L.length by omega)]
theorem atm_tx {r:Lm.Rec} {X:Pt.Pat} (h:It.LOk r X) {d:Tm.T} (hm:Tm.may d = true):atm (sg r (tx r X d)) = Tm.ats d:=by
 rw [sg_itd h hm,atm_flat (itm_gd h hm)];unfold itd;rw [itm_filter r X.pr X.se d hm,List.flatMap_map];have e:(List.range (Tm.ats d).length).flatMap (fun j=>se r (atE r (Tm.ats d) j)) = (List.range (Tm.ats d).length).flatMap (fun j=>[(Tm.ats d).getD j 0]):=by
  refine flat_congr _ _ _ fun j hj=>?_;exact atE_se h (Tm.okA_ats hm) j (List.mem_range.1 hj)
 rw [e,range_flat _ _ (Nat.le_refl _),List.take_length]
theorem tx_pE {r:Lm.Rec} {X:Pt.Pat} (h:It.LOk r X) {d:Tm.T} (hm:Tm.may d = true):pE (tx r X d).data.toList:=by
 have h1:=(pcs_tx (itd r X d) fun e he=>(itm_okT h (Tm.may_dig hm).1 (Tm.may_dig hm).2.1 d.g e he).1).2;unfold tx;rcases h1 with h1 | h1
 ·exact .inl (by simpa using h1)
 ·exact .inr (by simpa using h1)
theorem tx_size {r:Lm.Rec} {X:Pt.Pat} (h:It.LOk r X) {d:Tm.T} (hm:Tm.may d = true):(tx r X d).size <= 64 * (2 * d.i.length + d.f.length + 7):=by
 have h1:=tx_len (itd r X d) (itm_okT h (Tm.may_dig hm).1 (Tm.may_dig hm).2.1 d.g);have h2:=itm_len r X.pr X.se d (Lo.parP r (Ro.ahd d.g X)) (Lo.parP r (Ro.bhd d.g X));have h3:=(Ro.around_fact h.ok d.g).2.2.1;have h4:=(Ro.around_fact h.ok d.g).2.2.2;have e:(tx r X d).size = (txI (itd r X d)).length:=by unfold tx;simp [ByteArray.size]
 rw [e];unfold itd at h1 |-;have h5:64 * (itm r X.pr X.se d (Lo.parP r (Ro.ahd d.g X)) (Lo.parP r (Ro.bhd d.g X))).length <= 64 * (2 * d.i.length + d.f.length + 7):=Nat.mul_le_mul_left _ (by omega);omega
end Sx
end
section
namespace Ps
open Um Cm Gm Im Sx
def oth (c:Int):Int:=if 0 <= (Sm.ofC c).2 then (Sm.ofC c).2 else if c = 45 \/ c = 8722 then 12 else if c = 46 then 10 else -1
def kd (r:Lm.Rec) (X:Pt.Pat) (b:ByteArray):Int :=
 if 0 <= Lm.sgn r b then Lm.sgn r b
 else if (allL b.data.toList).length = 1 /\ 0 <= oth ((allL b.data.toList).headD 0) then oth ((allL b.data.toList).headD 0)
 else if blankB ((allL b.data.toList).headD 0) = true \/ 0 <= Lm.plc b (Lm.clus r X) 0 then 11 else -1
def kind (r:Lm.Rec) (X:Pt.Pat) (b:ByteArray):Int:=if (pcs b).length = 1 then kd r X b else -1
def run:List Int -> Bool -> List Int -> Bool -> Bool × List Int × Int
 | [],g,a,_=>if g = false /\ a = [] then (false,[],7) else (g,a,0)
 | k :: l,g,a,c =>
  if k < 0 then (false,[],2)
  else if k = 11 then run l g a c
  else if k = 12 then (if g = true then (false,[],5) else run l true a (decide (0 < a.length)))
  else if c = true then (false,[],5)
  else if k = 10 /\ 10 ∈ a then (false,[],6)
  else run l g (a ++ [k]) c
def kds (r:Lm.Rec) (X:Pt.Pat) (s:ByteArray):List Int:=(pcs s).map (kd r X)
def cln (s:ByteArray):ByteArray:=⟨(joinL (allL s.data.toList)).toArray⟩
def clip (r:Lm.Rec) (X:Pt.Pat) (s:ByteArray):Bool × List Int × Int:=if 4096 < s.size then (false,[],3) else run (kds r X (cln s)) false [] false
theorem run_out (l:List Int) (g:Bool) (a:List Int) (c:Bool):run (11 :: l) g a c = run l g a c:=by
 rw [run];simp
theorem run_sign (l:List Int) (a:List Int) (c:Bool):run (12 :: l) false a c = run l true a (decide (0 < a.length)):=by
 rw [run];simp
theorem run_atom {k:Int} (hk:0 <= k /\ k <= 10) {a:List Int} (h:¬ (k = 10 /\ 10 ∈ a)) (l:List Int) (g:Bool):run (k :: l) g a false = run l g (a ++ [k]) false:=by
 rw [run,if_neg (by omega),if_neg (by omega),if_neg (by omega),if_neg (by simp),if_neg h]
theorem run_mid (S:List Int) (g:Bool):∀ (M a:List Int),(∀ k ∈ M,0 <= k /\ k <= 11) -> (a ++ atm M).count 10 <= 1 -> run (M ++ S) g a false = run S g (a ++ atm M) false
 | [],a,_,_=>by simp [atm]
 | k :: M,a,h,hc=>by
  have hk:=h k List.mem_cons_self;have hM:∀ x ∈ M,0 <= x /\ x <= 11:=fun x hx=>h x (List.mem_cons_of_mem _ hx);rw [List.cons_append];by_cases h1:k = 11
  ·subst h1
   have e:atm (11 :: M) = atm M:=by unfold atm;rw [List.filter_cons_of_neg (by decide)]
   rw [e] at hc |-;rw [run_out];exact run_mid S g M a hM hc
  ·have e:atm (k :: M) = k :: atm M:=by
    unfold atm;rw [List.filter_cons_of_pos (by unfold isA;simp;omega)]
   rw [e] at hc |-;rw [run_atom (by omega) (fun h=>?_),run_mid S g M (a ++ [k]) hM (by simpa using hc)]
   ·simp
   ·rw [List.count_append,List.count_cons,h.1] at hc
    have:=List.count_pos_iff.2 h.2;simp at hc;omega
theorem run_aff:∀ (K:List Int),(∀ k ∈ K,k = 11 \/ k = 12) -> ∀ (S:List Int) (g:Bool) (a:List Int) (c:Bool),K.count 12 + (if g = true then 1 else 0) <= 1 ->
  run (K ++ S) g a c = run S (g || decide (0 < K.count 12)) a (if 0 < K.count 12 then decide (0 < a.length) else c)
 | [],_,S,g,a,c,_=>by simp
 | k :: K,h,S,g,a,c,hc=>by
  have hK:∀ x ∈ K,x = 11 \/ x = 12:=fun x hx=>h x (List.mem_cons_of_mem _ hx);rw [List.cons_append];rcases h k List.mem_cons_self with rfl | rfl
  ·have e:(11 :: K).count (12:Int) = K.count 12:=by rw [List.count_cons];simp
   rw [e] at hc |-;rw [run_out];exact run_aff K hK S g a c hc
  ·have e:(12 :: K).count (12:Int) = K.count 12 + 1:=by rw [List.count_cons];simp
   rw [e] at hc |-;have hg:g = false:=by cases g;rfl;simp at hc
   have h0:K.count 12 = 0:=by omega
   subst hg;rw [run_sign,run_aff K hK S true a _ (by rw [h0];simp),h0];simp
theorem run_end (g:Bool) (a:List Int) (c:Bool):run [] g a c = if g = false /\ a = [] then (false,[],7) else (g,a,0):=rfl
theorem run_all {A M B:List Int} (hA:∀ k ∈ A,k = 11 \/ k = 12) (hM:∀ k ∈ M,0 <= k /\ k <= 11) (hB:∀ k ∈ B,k = 11 \/ k = 12) (h1:A.count 12 + B.count 12 <= 1) (h2:(atm M).count 10 <= 1) :
  run (A ++ M ++ B) false [] false = if decide (0 < A.count 12 + B.count 12) = false /\ atm M = [] then (false,[],7) else (decide (0 < A.count 12 + B.count 12),atm M,0):=by
 rw [List.append_assoc,run_aff A hA _ false [] false (by simp;omega)];have e:(if 0 < A.count 12 then decide (0 < ([]:List Int).length) else false) = false:=by split <;> rfl
 rw [e,run_mid B _ M [] hM (by simpa using h2),List.nil_append];have hB2:=run_aff B hB [] (false || decide (0 < A.count 12)) (atm M) false (by
  by_cases h:0 < A.count 12
  ·simp [h];omega
  ·simp [h];omega)
 rw [List.append_nil] at hB2;rw [hB2,run_end];have e2:((false || decide (0 < A.count 12)) || decide (0 < B.count 12)) = decide (0 < A.count 12 + B.count 12):=by
  by_cases h3:0 < A.count 12 <;> by_cases h4:0 < B.count 12 <;> simp [h3,h4] <;> omega
 rw [e2]
end Ps
end
section
namespace Ps
open Um Cm Gm Im Sx
def fine (b:ByteArray):Bool:=!(decide ((allL b.data.toList).length = 1) && decide (0 <= oth ((allL b.data.toList).headD 0)))
def Fine (r:Lm.Rec) (X:Pt.Pat):Prop:=∀ c ∈ Lm.clus r X,fine c = true
theorem kd_sgn {r:Lm.Rec} {X:Pt.Pat} {b:ByteArray} (h:0 <= Lm.sgn r b):kd r X b = Lm.sgn r b:=by unfold kd;rw [if_pos h]
theorem kd_aff {r:Lm.Rec} {X:Pt.Pat} (hO:Lm.Ok r X) (hf:Fine r X) {c:ByteArray} (hc:c ∈ Lm.clus r X):kd r X c = 11:=by
 have h1:=out_sgn hO hc;have h2:=hf c hc;unfold fine at h2;unfold kd;rw [if_neg (by omega),if_neg (fun h=>by rw [decide_eq_true h.1,decide_eq_true h.2] at h2;cases h2),if_pos (.inr ((Lm.plc_neg _ 0).2 hc))]
theorem atx_mem {r:Lm.Rec} {X:Pt.Pat} (h:It.LOk r X) {A:List Pc.E} (hA:A ∈ Lm.affs X) (B:List Pc.E) (hB:∀ x ∈ B,x ∈ A):∀ c ∈ pcs (Lm.bs (Lm.atx r B)),c ∈ Lm.clus r X:=by
 intro c hc;have e:∀ D:List Pc.E,(∀ x ∈ D,x ∈ A) -> pcs (Lm.bs (Lm.atx r D)) = D.flatMap fun x=>pcs (Lm.bs (Lm.ptx r x)):=fun D hD=>pcs_flat (Lm.ptx r) D fun x hx=>ptx_pE h hA (hD x hx);rw [e B hB] at hc;obtain ⟨x,hx,hcx⟩:=List.mem_flatMap.1 hc;unfold Lm.clus;refine List.mem_flatMap.2 ⟨A,hA,?_⟩;rw [e A (fun _ h=>h)];exact List.mem_flatMap.2 ⟨x,hB x hx,hcx⟩
def ke (r:Lm.Rec) (X:Pt.Pat) (e:E):List Int:=(pcs e.2.1).map (kd r X)
theorem kds_tx (r:Lm.Rec) (X:Pt.Pat) (l:List E) (h:∀ e ∈ l,okT e.2.1):kds r X ⟨(txI l).toArray⟩ = l.flatMap (ke r X):=by
 unfold kds ke;rw [(pcs_tx l fun e he=>(h e he).1).1,List.map_flatMap]
theorem ke_one {r:Lm.Rec} {X:Pt.Pat} {e:E} {k:Int} (h:se r e = [k]) (hk:0 <= k):ke r X e = [k]:=by
 unfold se at h;unfold ke;obtain ⟨c,hc,h1⟩:=List.map_eq_singleton_iff.1 h;rw [hc,List.map_cons,List.map_nil,kd_sgn (by rw [h1];exact hk),h1]
theorem ke_aff {r:Lm.Rec} {X:Pt.Pat} (h:It.LOk r X) (hf:Fine r X) {A:List Pc.E} (hA:A ∈ Lm.affs X) {e:E} (he:e ∈ affI r (Lo.parP r A)):(e.1 = 1 /\ ke r X e = [12]) \/ (e.1 = 0 /\ ∀ k ∈ ke r X e,k = 11):=by
 rcases aff_gd h hA he with ⟨h1,_⟩ | ⟨h1,h2⟩ | ⟨h1,_⟩ | ⟨h1,_⟩ | ⟨h1,_⟩
 ·refine .inr ⟨h1,fun k hk=>?_⟩
  obtain ⟨p,hp,rfl⟩:=List.mem_map.1 he;have h1':=h1;unfold affE at h1;unfold ke affE at hk;split at h1
  ·cases h1
  ·next hp1 =>
   rw [if_neg hp1] at hk;rcases parP_mem hp with h3 | ⟨B,h3,h4,_⟩
   ·exact absurd h3 hp1
   ·dsimp only at hk
    rw [h3] at hk;obtain ⟨c,hc,rfl⟩:=List.mem_map.1 hk;exact kd_aff h.ok hf (atx_mem h hA B h4 c hc)
 ·exact .inl ⟨h1,ke_one h2 (by omega)⟩
 all_goals (exfalso;have:=(aff_tag he).1;omega)
theorem cnt_off {l:List Int} (h:∀ k ∈ l,k ≠ 12):l.count 12 = 0:=List.count_eq_zero.2 fun hk=>h 12 hk rfl
theorem aff_cnt12 {r:Lm.Rec} {X:Pt.Pat} (h:It.LOk r X) (hf:Fine r X) {A:List Pc.E} (hA:A ∈ Lm.affs X):∀ l:List E,(∀ e ∈ l,e ∈ affI r (Lo.parP r A)) -> (l.flatMap (ke r X)).count 12 = l.countP sgB
 | [],_=>rfl
 | e :: l,hl=>by
  have ih:=aff_cnt12 h hf hA l fun x hx=>hl x (List.mem_cons_of_mem _ hx);rw [List.flatMap_cons,List.count_append,ih];rcases ke_aff h hf hA (hl e List.mem_cons_self) with ⟨h1,h2⟩ | ⟨h1,h2⟩
  ·rw [List.countP_cons_of_pos (by unfold sgB;rw [h1];rfl),h2]
   simp;omega
  ·rw [List.countP_cons_of_neg (by unfold sgB;rw [h1];simp),cnt_off (fun k hk=>by rw [h2 k hk];decide)]
   omega
theorem aff_in {r:Lm.Rec} {X:Pt.Pat} (h:It.LOk r X) (hf:Fine r X) {A:List Pc.E} (hA:A ∈ Lm.affs X):∀ k ∈ (affI r (Lo.parP r A)).flatMap (ke r X),k = 11 \/ k = 12:=by
 intro k hk;obtain ⟨e,he,hk⟩:=List.mem_flatMap.1 hk;rcases ke_aff h hf hA he with ⟨_,h2⟩ | ⟨_,h2⟩
 ·rw [h2] at hk
  exact .inr (by simpa using hk)
 ·exact .inl (h2 k hk)
theorem aff_atm {r:Lm.Rec} {X:Pt.Pat} (h:It.LOk r X) {A:List Pc.E} (hA:A ∈ Lm.affs X):atm ((affI r (Lo.parP r A)).flatMap (se r)) = []:=by
 unfold atm;rw [List.filter_eq_nil_iff];intro k hk;obtain ⟨e,he,hk⟩:=List.mem_flatMap.1 hk;rcases aff_gd h hA he with ⟨_,h2⟩ | ⟨_,h2⟩ | ⟨h1,_⟩ | ⟨h1,_⟩ | ⟨h1,_⟩
 ·rw [h2 k hk];decide
 ·rw [h2] at hk
  rw [show k = 12 by simpa using hk];decide
 all_goals (exfalso;have:=(aff_tag he).1;omega)
theorem ke_mid {r:Lm.Rec} {X:Pt.Pat} {e:E} (hg:Gd r e) (h2:2 <= e.1):ke r X e = se r e /\ ∀ k ∈ se r e,0 <= k /\ k <= 11:=by
 rcases hg with ⟨h1,_⟩ | ⟨h1,_⟩ | ⟨_,d,h3,h4,h5⟩ | ⟨_,h5⟩ | ⟨_,h5⟩
 ·omega
 ·omega
 ·exact ⟨by rw [ke_one h5 h3,h5],fun k hk=>by rw [h5] at hk;exact (by simpa using hk:k = d) ▸ ⟨h3,by omega⟩⟩
 ·exact ⟨by rw [ke_one h5 (by omega),h5],fun k hk=>by
  rw [h5] at hk;have e:k = 11:=by simpa using hk
  exact ⟨by omega,by omega⟩⟩
 ·exact ⟨by rw [ke_one h5 (by omega),h5],fun k hk=>by
  rw [h5] at hk;have e:k = 10:=by simpa using hk
  exact ⟨by omega,by omega⟩⟩
theorem ats_ten {d:Tm.T} (hm:Tm.may d = true):(Tm.ats d).count 10 <= 1:=by
 obtain ⟨h1,h2,_⟩:=Tm.may_dig hm;have e:∀ l:List Int,Dm.okD l -> l.count 10 = 0:=fun l hl=>List.count_eq_zero.2 fun h=>by have:=hl 10 h;omega
 unfold Tm.ats;rw [List.count_append,List.count_append,e _ h1,e _ h2];unfold Tm.sep;split <;> simp
theorem run_tx {r:Lm.Rec} {X:Pt.Pat} (h:It.LOk r X) (hf:Fine r X) {d:Tm.T} (hm:Tm.may d = true) :
  run (kds r X (tx r X d)) false [] false = if d.g = false /\ Tm.ats d = [] then (false,[],7) else (d.g,Tm.ats d,0):=by
 have hm1:Ro.ahd d.g X ∈ Lm.affs X:=by cases d.g <;> simp [Ro.ahd,Lm.affs]
 have hm2:Ro.bhd d.g X ∈ Lm.affs X:=by cases d.g <;> simp [Ro.bhd,Lm.affs]
 have hat:=atm_tx h hm;rw [sg_itd h hm] at hat;have hcnt:(affI r (Lo.parP r (Ro.ahd d.g X))).countP sgB + (affI r (Lo.parP r (Ro.bhd d.g X))).countP sgB = if d.g = true then 1 else 0:=by
  have hx:=(Ro.around_fact h.ok d.g).2.1;rw [Ro.sgs_app] at hx;rw [aff_cnt,aff_cnt];exact hx
 have hgd:=itm_gd h hm;unfold tx;rw [kds_tx r X (itd r X d) (itm_okT h (Tm.may_dig hm).1 (Tm.may_dig hm).2.1 d.g)];unfold itd itm at hat hgd |-;obtain ⟨M,hM⟩:∃ M,M = whI r X.pr X.se d.i d.i.length ++ resI r d:=⟨_,rfl⟩;have hMe:∀ e ∈ M,Gd r e /\ 2 <= e.1:=by
  intro e he;rw [hM] at he;refine ⟨hgd e (by simp only [List.mem_append] at he |-;rcases he with h | h <;> simp [h]),?_⟩
  rcases List.mem_append.1 he with h1 | h1
  ·rcases wh_tag _ e h1 with h2 | h2 <;> omega
  ·rcases res_tag h1 with h2 | h2 <;> omega
 have hke:M.flatMap (ke r X) = M.flatMap (se r):=flat_congr _ _ M fun e he=>(ke_mid (hMe e he).1 (hMe e he).2).1;have e1:∀ A B:List E,A ++ whI r X.pr X.se d.i d.i.length ++ resI r d ++ B = A ++ M ++ B:=by intro A B;rw [hM];simp [List.append_assoc]
 rw [e1] at hat |-;rw [List.flatMap_append,List.flatMap_append] at hat |-;rw [atm_app,atm_app,aff_atm h hm1,aff_atm h hm2,List.nil_append,List.append_nil] at hat;rw [hke];have c1:=aff_cnt12 h hf hm1 _ (fun e he=>he);have c2:=aff_cnt12 h hf hm2 _ (fun e he=>he);rw [run_all (aff_in h hf hm1) (fun k hk=>by
  obtain ⟨e,he,hk⟩:=List.mem_flatMap.1 hk;exact (ke_mid (X:=X) (hMe e he).1 (hMe e he).2).2 k hk) (aff_in h hf hm2) (by rw [c1,c2,hcnt];split <;> omega) (by rw [hat];exact ats_ten hm),c1,c2,hcnt,hat]
 cases d.g <;> simp
end Ps
end
end Go.Proofs.YteggfkbnnmpcjaaGreatDoor
