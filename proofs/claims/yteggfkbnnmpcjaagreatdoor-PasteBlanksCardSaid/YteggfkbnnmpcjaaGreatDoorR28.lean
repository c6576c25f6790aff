/- The document's own answers on patterns: half, walked. (and more) -/
import Derived.Test.YteggfkbnnmpcjaaGreatDoorR27
set_option linter.all false
set_option maxRecDepth 100000
set_option maxHeartbeats 8000000
namespace Go.Proofs.YteggfkbnnmpcjaaGreatDoor
section
open Go.RowKit
namespace Pr
open Pt Um
theorem PB.set0 {w:World} {g:Nat} {a b c d:Value} {p s i m x:Int} (h:PB w g a b c d p s i m x) (y:Value):PB (w.setCell ⟨g,0,none⟩ y) g y b c d p s i m x:=by
 have:=Joins.block_setCell h y (i:=0);unfold PB;simpa using this
theorem size_set (w:World) (ad:Addr) (x:Value):(w.setCell ad x).heap.size = w.heap.size:=by
 simp [World.setCell]
theorem _root_.Go.Proofs.YteggfkbnnmpcjaaGreatDoor.Pc.New.set {w:World} {B:Nat} {v:Value} {l:List Pc.E} (h:Pc.New w B v l) {ad:Addr} (x:Value) (hb:ad.block < B):Pc.New (w.setCell ad x) B v l:=by
 refine ⟨?_,h.2⟩;rcases h.1 with hn | ⟨g,off,cap,hv,hg,h1,h2,hc⟩
 ·exact .inl hn
 ·refine .inr ⟨g,off,cap,hv,by rw [size_set];exact hg,h1,h2,fun i hi=>?_⟩
  have hB:=h.2 _ _ _ hv (by omega);have hne:g ≠ ad.block:=by have:B <= g:=hB;omega
  have e:=fun o=>World.cell?_of_block (w:=w) (w':=w.setCell ad x) (a:=⟨g,o,none⟩) (heap_setCell_other _ ad _ x hne);exact ⟨(e _).trans (hc i hi).1,(e _).trans (hc i hi).2⟩
theorem _root_.Go.Proofs.YteggfkbnnmpcjaaGreatDoor.Pc.New.puts {w:World} {B:Nat} {v:Value} {l:List Pc.E} (h:Pc.New w B v l) {g:Nat} (hg:g < B) (v0 v1 v2 v3 v4 v5 v6 v7 v8:Value):Pc.New (((((((((w.setCell ⟨g,0,none⟩ v0).setCell ⟨g,1,none⟩ v1).setCell ⟨g,2,none⟩ v2).setCell ⟨g,3,none⟩ v3).setCell ⟨g,4,none⟩ v4).setCell ⟨g,5,none⟩ v5).setCell ⟨g,6,none⟩ v6).setCell ⟨g,7,none⟩ v7).setCell ⟨g,8,none⟩ v8) B v l :=
 ((((((((h.set (ad:=⟨g,0,none⟩) _ hg).set (ad:=⟨g,1,none⟩) _ hg).set (ad:=⟨g,2,none⟩) _ hg).set (ad:=⟨g,3,none⟩) _ hg).set (ad:=⟨g,4,none⟩) _ hg).set (ad:=⟨g,5,none⟩) _ hg).set (ad:=⟨g,6,none⟩) _ hg).set (ad:=⟨g,7,none⟩) _ hg).set (ad:=⟨g,8,none⟩) _ hg
theorem half_any (v:Value) (l:List (Int × Int)) (w:World) (hv:Pc.LstP w v (tkP l)) (hl:l.length <= 100000) (hk:sgnOk l) :
  Calls Tryz.prog 138 #[v] w fun e w'=>HalfIs w' w.heap.size (half l) e /\ Q w w':=by
 obtain ⟨n,hn⟩:∃ n,n = l.length:=⟨_,rfl⟩;have HN:=Hd hn;have HV:=Hd hv;have hnl:(tkP l).length = n:=by rw [tkP_len];exact hn.symm
 have HNL:=Hd hnl;obtain ⟨a,cp,rfl,hc1,hc2⟩:=hv.form0 hnl;rw [<- hn] at hl;have HK:=Hd hk;have hb0:PB (w.alloc (.cells #[nilV,nilV,nilV,nilV,.int .i64 0,.int .i64 0,.int .i64 0,.int .i64 0,.int .i64 0] 29)) w.heap.size nilV nilV nilV nilV 0 0 0 0 0:=heap_alloc_new _ _;have HB0:=Hd hb0;obtain ⟨f,hf⟩:∃ f,f = frm l:=⟨_,rfl⟩;obtain ⟨m,hm⟩:∃ m,m = mny l:=⟨_,rfl⟩;have hfn:f <= n:=by rw [hf,hn];exact frm_le l
 have hfm:f + m <= n:=by rw [hf,hm,hn];exact mny_le l
 -- what stands at a place
 have CE:=Hd (fun (u:World) (hq:Q w u) (k:Nat) (hk:k < n)=>(by
  obtain ⟨g,off,cap,hvv,hg,_,_,d1,d2⟩:=HV.out.cellOf HNL.out hk;have hkl:k < l.length:=by have:=HN.out;omega
  obtain ⟨e1,e2⟩:=kind_at l k hkl;rw [e1] at d1;rw [e2] at d2;exact ⟨g,off,by cases hvv;rfl,hkl,(World.cell?_of_block (w:=w) (hq.block hg)).trans d1,(World.cell?_of_block (w:=w) (hq.block hg)).trans d2⟩ :
  ∃ g off,a = some ⟨g,off,none⟩ /\ ∃ hkl:k < l.length,u.cell? ⟨g,off + k * 2,none⟩ = some (.int .i64 (l[k]'hkl).1) /\ u.cell? ⟨g,off + k * 2 + 1,none⟩ = some (.string ⟨(encL (l[k]'hkl).2).toArray⟩)))
 have F1:=Hd (fun k (h:k < f)=>(by rw [hf] at h;exact frm_lt h:∃ hk:k < l.length,(l[k]'hk).1 ≠ 4));have F2:=Hd (fun (h:f < n)=>(by subst hf;exact frm_end (by rw [hn] at h;exact h):(l[f]'(by rw [<- HN.out];exact h)).1 = 4));have F3:=Hd (fun j (h:j < m)=>(by subst hf;rw [hm] at h;exact mny_lt h:∃ hk:f + j < l.length,(l[f + j]'hk).1 = 4));have F4:=Hd (fun (h:f + m < n)=>(by subst hf;subst hm;exact mny_end (by rw [hn] at h;exact h):(l[f + m]'(by rw [<- HN.out];exact h)).1 ≠ 4));have HALF:half l = if (l.drop (f + m)).any isN = true then none else (num (((l.drop f).take m).map (·.2))).map fun n=>⟨joinT [] (l.take f),joinT [] (l.drop (f + m)),n⟩:=by rw [hf,hm];exact half_eq l
 have HH:=Hd HALF;clear HALF hb0 hv hnl hf hm hk;obtain ⟨R,hR⟩:∃ R,R = half l:=⟨_,rfl⟩;rw [<- hR] at HH |-;clear hR hn;go_enter Tryz.func138,Tryz.ntmps138
 go_wp2_with fail
 go_loopw [5] (fun i wr=>∃ k:Nat,i = .int .i64 k /\ k <= f /\ PB wr w.heap.size nilV nilV nilV nilV 0 0 0 0 0 /\ Q w wr) (fun i _=>f - (intOf i).toNat)
 case atStart=>exact ⟨0,rfl,by omega,HB0.out,(Q.refl w).alloc _⟩
 case round =>
  obtain ⟨k,rfl,hkf,hrb,hq⟩:=hrel;have HRB:=Hd hrb;clear hrb;by_cases hlt:k < f
  ·have hki:(k:Int) < (n:Int):=by omega
   obtain ⟨g,off,rfl,hkl,c1,c2⟩:=CE.out wr hq k (by omega);obtain ⟨_,hne⟩:=F1.out k hlt;have hne2:((l[k]'hkl).1 == 4) = false:=beq_eq_false_iff_ne.2 hne;have hne3:((l[k]'hkl).1 != 4) = true:=bne_iff_ne.2 hne;generalize (l[k]'hkl) = x at *;clear hne c2;go_wp2_with fail
   exact ⟨⟨k + 1,by go_num,by omega,HRB.out,hq⟩,by simp [intOf];omega⟩
  ·have hkf2:k = f:=by omega
   subst hkf2;have hout:(¬ (k:Int) < (n:Int)) \/ ((k:Int) < (n:Int) /\ ∃ g off,a = some ⟨g,off,none⟩ /\ wr.cell? ⟨g,off + k * 2,none⟩ = some (.int .i64 4)):=by
    by_cases h:k < n
    ·obtain ⟨g,off,ha,hkl,c1,c2⟩:=CE.out wr hq k h
     have:=F2.out h;rw [this] at c1;exact .inr ⟨by omega,g,off,ha,c1⟩
    ·exact .inl (by omega)
   rcases hout with hout | ⟨hout,g,off,rfl,c1⟩;all_goals
    have HQ0:=Hd hq;go_wp2_with fail
    clear hq hout;try clear c1
    go_loopw [6,7] (fun i sv wr2=>∃ j:Nat,i = .int .i64 (((k + j:Nat):Int)) /\ j <= m /\ sv = .string ⟨(sgB (((l.drop k).take m).take j)).toArray⟩ /\ PB wr2 w.heap.size nilV nilV nilV nilV 0 0 0 0 0 /\ Q w wr2) (fun i _ _=>k + m - (intOf i).toNat)
    case atStart=>exact ⟨0,rfl,by omega,rfl,HRB.out,HQ0.out⟩
    case round =>
     obtain ⟨j,rfl,hjm,rfl,hrb2,hq2⟩:=hrel;have HRB2:=Hd hrb2;clear hrb2;have hrl:((l.drop k).take m).length = m:=by rw [List.length_take,List.length_drop];have:=HN.out;omega
     have hsl:=sgB_len (((l.drop k).take m).take j);rw [List.length_take,hrl] at hsl;have hsz:(⟨(sgB (((l.drop k).take m).take j)).toArray⟩:ByteArray).size <= 1000000:=by
      rw [<- size_list];show (sgB (((l.drop k).take m).take j)).length <= _;omega
     by_cases hlt2:j < m
     ·have hki:((k + j:Nat):Int) < (n:Int):=by omega
      obtain ⟨g',off',ha,hkl,c1,c2⟩:=CE.out wr hq2 (k + j) (by omega);cases ha;obtain ⟨_,he4⟩:=F3.out j hlt2;have hsn:=sgB_snoc ((l.drop k).take m) j (by rw [hrl];exact hlt2);have hge:((l.drop k).take m)[j]'(by rw [hrl];exact hlt2) = l[k + j]'hkl:=by rw [List.getElem_take,List.getElem_drop]
      rw [hge] at hsn;rw [he4] at c1;have happ:=app_eq (sgB (((l.drop k).take m).take j)) (encL (l[k + j]'hkl).2);rw [<- hsn] at happ;have hel:=encL_len (l[k + j]'hkl).2;have hez:(⟨(encL (l[k + j]'hkl).2).toArray⟩:ByteArray).size <= 4:=by rw [<- size_list];exact hel
      generalize (⟨(encL (l[k + j]'hkl).2).toArray⟩:ByteArray) = T at *;generalize (⟨(sgB (((l.drop k).take m).take j)).toArray⟩:ByteArray) = S at *;have HAP:=Hd happ;clear happ hsn hge he4 hsl;go_wp2_with fail
      exact ⟨⟨j + 1,by go_num,by omega,by rw [HAP.out],HRB2.out,hq2⟩,by simp [intOf];omega⟩
     ·have hjm2:j = m:=by omega
      subst hjm2;have htk:((l.drop k).take j).take j = (l.drop k).take j:=List.take_of_length_le (by rw [hrl];exact Nat.le_refl _);rw [htk] at hsz |-;have hbys:bys ⟨(sgB ((l.drop k).take j)).toArray⟩ = ((l.drop k).take j).map (·.2):=sgB_bys _ (fun x hx=>by
       obtain ⟨t,ht,rfl⟩:=List.mem_iff_getElem.1 hx;rw [hrl] at ht;obtain ⟨_,he4⟩:=F3.out t ht;rw [List.getElem_take,List.getElem_drop];exact he4) (fun x hx=>HK.out x (List.mem_of_mem_drop (List.mem_of_mem_take hx)))
      have NA0:=fun w=>number_any ⟨(sgB ((l.drop k).take j)).toArray⟩ w hsz;rw [hbys] at NA0;have NA:=Hd NA0;clear NA0;generalize (⟨(sgB ((l.drop k).take j)).toArray⟩:ByteArray) = S at *;clear hbys htk hsl;by_cases hlt3:k + j < n
      ·have hki:((k + j:Nat):Int) < (n:Int):=by omega
       obtain ⟨g',off',ha,hkl,c1,c2⟩:=CE.out wr hq2 (k + j) hlt3;cases ha;have he4:((l[k + j]'hkl).1 == 4) = false:=beq_eq_false_iff_ne.2 (F4.out hlt3);generalize (l[k + j]'hkl) = x at *;have HQ2:=Hd hq2;clear c2 hq2;go_wp2_with fail
       go_loopw [8] (fun i wr3=>∃ t:Nat,i = .int .i64 (((k + j + t:Nat):Int)) /\ k + j + t <= n /\ Hid ((l.drop (k + j)).any isN = (l.drop (k + j + t)).any isN) /\ PB wr3 w.heap.size nilV nilV nilV nilV 0 0 0 0 0 /\ Q w wr3) (fun i _=>n - (intOf i).toNat)
       case atStart=>exact ⟨0,rfl,by omega,Hd rfl,HRB2.out,HQ2.out⟩
       case round =>
        obtain ⟨t,rfl,htn,HAR,hrb3,hq3⟩:=hrel;have HRB3:=Hd hrb3;clear hrb3;by_cases hlt4:k + j + t < n
        ·first
         | (exfalso;omega)
         | skip
         obtain ⟨g2,off2,ha,hkl,c1,c2⟩:=CE.out wr hq3 (k + j + t) hlt4;cases ha;have hst:(l.drop (k + j + t)).any isN = (isN (l[k + j + t]'hkl) || (l.drop (k + j + (t + 1))).any isN):=by
          rw [List.drop_eq_getElem_cons hkl,List.any_cons];rfl
         have hki4:((k + j + t:Nat):Int) < (n:Int):=by omega
         by_cases hk4:(l[k + j + t]'hkl).1 = 4
         ·rw [hk4] at c1
          have hno:R = none:=by
           rw [HH.out,if_pos];rw [HAR.out,hst];simp [isN,hk4]
          generalize (l[k + j + t]'hkl) = x at *;have HNO:=Hd hno;clear hno hst c2 hk4;have HQ3:=Hd hq3;clear hq3;obtain ⟨r0,r1,r2,r3,r4,r5,r6,r7,r8⟩:=HRB3.out.cells;obtain ⟨f0,f1,f2,f3,f4,f5,f6,f7,f8⟩:=HRB3.out.free;go_wp2_with fail
          refine ret_p3 rfl rfl rfl rfl (PB.all HRB3.out) rfl ⟨.inl ⟨HNO.out,_,_,_,_,_,_,_,_,_,_,_,_,rfl⟩,Q.puts HQ3.out (Nat.le_refl _) _ _ _ _ _ _ _ _ _⟩
         ·have hst2:(l.drop (k + j)).any isN = (l.drop (k + j + (t + 1))).any isN:=by
           rw [HAR.out,hst];have:isN (l[k + j + t]'hkl) = false:=beq_eq_false_iff_ne.2 hk4;rw [this,Bool.false_or]
          have hk5:((l[k + j + t]'hkl).1 == 4) = false:=beq_eq_false_iff_ne.2 hk4;have HST:=Hd hst2;generalize (l[k + j + t]'hkl) = x at *;clear hst hst2 c2 hk4;go_wp2_with fail
          exact ⟨⟨t + 1,by go_num,by omega,HST,HRB3.out,hq3⟩,by simp [intOf];omega⟩
        ·have htn2:k + j + t = n:=by omega
         have hki4:¬ ((k + j + t:Nat):Int) < (n:Int):=by omega
         have hdr:(l.drop (k + j)).any isN = false:=by
          rw [HAR.out,htn2,HN.out,List.drop_length];rfl
         have hR:=HH.out;rw [hdr,if_neg (by decide)] at hR;have HR:=Hd hR;have HQ3:=Hd hq3;clear hR hdr hq3;have h1:=HV.out.take k (by rw [HNL.out];omega);have H1:=Hd h1;clear h1;go_wp2_with fail
         refine (NA.out _).mono ?_;rintro e w1 ⟨hN,hq4⟩;obtain ⟨p1,p2,p3,p4,p5,b1,b2,rfl,hN2⟩:∃ p1 p2 p3 p4 p5 b1 b2,e = .returned (.tuple #[.agg #[.slice none 0 0,.slice none 0 0,.slice none 0 0,.slice none 0 0,.int .i64 p1,.int .i64 p2,.int .i64 p3,.int .i64 p4,.int .i64 p5],.bool b1,.bool b2]) /\ ((b1 = false /\ R = none) \/ (b1 = true /\ R = some ⟨joinT [] (l.take k),joinT [] (l.drop (k + j)),⟨p1,p2,p3,p4,p5,b2⟩⟩)):=by
          rcases hN with ⟨hno,p1,p2,p3,p4,p5,rfl⟩ | ⟨nn,hsm,rfl⟩
          ·refine ⟨p1,p2,p3,p4,p5,false,false,rfl,.inl ⟨rfl,?_⟩⟩
           rw [HR.out,hno];rfl
          ·refine ⟨nn.pr,nn.se,nn.mi,nn.mf,nn.xf,true,nn.long,rfl,.inr ⟨rfl,?_⟩⟩
           rw [HR.out,hsm];rfl
         have HN2:=Hd hN2;clear hN2 hN;have HQ4:=Hd (HQ3.out.trans hq4);have HRB4:=Hd (HRB3.out.q hq4);have hgw:w.heap.size < w1.heap.size:=HRB4.out.lt;clear hq4;go_wp2_with fail
         obtain ⟨z,hz⟩:∃ z,z = w1.alloc (.cells #[.slice none 0 0,.slice none 0 0,.slice none 0 0,.slice none 0 0,.int .i64 p1,.int .i64 p2,.int .i64 p3,.int .i64 p4,.int .i64 p5] 29):=⟨_,rfl⟩;have hqz:Q w1 z:=by rw [hz];exact (Q.refl w1).alloc _
         have hpz:PB z w1.heap.size nilV nilV nilV nilV p1 p2 p3 p4 p5:=by rw [hz];exact heap_alloc_new _ _
         rw [<- hz];clear hz;refine (joined_any _ _ z (H1.out.q (HQ4.out.trans hqz)) (by rw [List.length_take,HNL.out];omega) (fun p hp=>Nat.le_trans (tkP_txt l p (List.mem_of_mem_take hp)) (by decide))).mono ?_;rintro e w2 ⟨u1,rfl,hu1,hq5⟩;obtain ⟨L1,hL1⟩:∃ L1,(joinE [] ((tkP l).take k)).length = L1:=⟨_,rfl⟩;obtain ⟨ua,uc,rfl,uc1,uc2⟩:=hu1.lst.form0 hL1;clear hL1;have HU1:=Hd hu1;have HPZ:=Hd (hpz.q hq5);have HQ5:=Hd (HQ4.out.trans (hqz.trans hq5));have HRB5:=Hd (HRB4.out.q (hqz.trans hq5));have hz2:w1.heap.size < z.heap.size:=hpz.lt;obtain ⟨G,hG⟩:∃ G,G = w1.heap.size:=⟨_,rfl⟩;rw [<- hG] at HPZ hgw hz2 |-;clear hu1 hpz hqz hq5 hG;obtain ⟨r0,r1,r2,r3,r4,r5,r6,r7,r8⟩:=HPZ.out.cells;obtain ⟨f0,f1,f2,f3,f4,f5,f6,f7,f8⟩:=HPZ.out.free;obtain ⟨y0,hy0⟩:∃ y0,y0 = z.heap.size:=⟨_,rfl⟩;rw [<- hy0] at HU1 hz2;clear hy0;rcases HV.out.rest HNL.out hfm with ⟨g3,off3,ha,hlt5,hcc,hcm,hdp⟩ | ⟨hkn,hcn,hdp⟩ | ⟨ad3,ha,hkn,hcc,hcm,hdp⟩
         ·cases ha
          have HDP:=Hd hdp;clear hdp;go_wp2_with fail
          refine (joined_any _ _ _ (HDP.out.q (HQ5.out.setCell (ad:=⟨G,0,none⟩) (by show w.heap.size <= G;omega) _)) (by rw [List.length_drop,HNL.out];omega) (fun p hp=>Nat.le_trans (tkP_txt l p (List.mem_of_mem_drop hp)) (by decide))).mono ?_;rintro e w3 ⟨u2,rfl,hu2,hq6⟩;obtain ⟨L2,hL2⟩:∃ L2,(joinE [] ((tkP l).drop (k + j))).length = L2:=⟨_,rfl⟩;obtain ⟨va,vc,rfl,vc1,vc2⟩:=hu2.lst.form0 hL2;clear hL2;have hG3:G < w3.heap.size:=Nat.lt_of_lt_of_le (by rw [size_set];exact HPZ.out.lt) hq6.le;have hN1:=(((HU1.out.new).set (ad:=⟨G,0,none⟩) (.slice ua L1 uc) (by show G < y0;omega)).q hq6).mono (B':=G + 1) (by omega);have hN2b:=(hu2.new).mono (B':=G + 1) (by rw [size_set];have:=HPZ.out.lt;omega);have hp6:=(HPZ.out.set0 (.slice ua L1 uc)).q hq6;have hr6:=((HRB5.out).other (ad:=⟨G,0,none⟩) (by show w.heap.size ≠ G;omega) (.slice ua L1 uc)).q hq6;have hq7:=(HQ5.out.setCell (ad:=⟨G,0,none⟩) (by show w.heap.size <= G;omega) (.slice ua L1 uc)).trans hq6;have HN1:=Hd hN1;have HN2B:=Hd hN2b;have HP6:=Hd hp6;have HR6:=Hd hr6;have HQ7:=Hd hq7;clear hN1 hN2b hp6 hr6 hq7 hu2 hq6 r0 r1 r2 r3 r4 r5 r6 r7 r8 f0 f1 f2 f3 f4 f5 f6 f7 f8;obtain ⟨r0,r1,r2,r3,r4,r5,r6,r7,r8⟩:=HP6.out.cells;obtain ⟨f0,f1,f2,f3,f4,f5,f6,f7,f8⟩:=HP6.out.free;obtain ⟨t0,t1,t2,t3,t4,t5,t6,t7,t8⟩:=HR6.out.cells;obtain ⟨e0,e1,e2,e3,e4,e5,e6,e7,e8⟩:=HR6.out.free;go_wp2_with fail
          refine ret_p3 rfl rfl rfl rfl (PB.all ((HR6.out).other (ad:=⟨G,1,none⟩) (by show w.heap.size ≠ G;omega) _)) rfl ⟨?_,Q.puts (HQ7.out.setCell (ad:=⟨G,1,none⟩) (by show w.heap.size <= G;omega) _) (Nat.le_refl _) _ _ _ _ _ _ _ _ _⟩;rcases HN2.out with ⟨rfl,hr⟩ | ⟨rfl,hr⟩
          ·exact .inl ⟨hr,_,_,_,_,_,_,_,_,_,_,_,_,rfl⟩
          ·have k1:=HN1.out
           have k2:=HN2B.out;rw [tkP_take,joinE_tk] at k1;rw [tkP_drop,joinE_tk] at k2;exact .inr ⟨_,_,_,hr,rfl,((k1.set (ad:=⟨G,1,none⟩) _ (Nat.lt_succ_self G)).puts (by omega) _ _ _ _ _ _ _ _ _).mono (by omega),((k2.set (ad:=⟨G,1,none⟩) _ (Nat.lt_succ_self G)).puts (by omega) _ _ _ _ _ _ _ _ _).mono (by omega)⟩
         ·exact absurd hlt3 (by omega)
         ·exact absurd hlt3 (by omega)
      ·have hki:¬ ((k + j:Nat):Int) < (n:Int):=by omega
       have HQ2:=Hd hq2;clear hq2;go_wp2_with fail
       go_loopw [8] (fun i wr3=>∃ t:Nat,i = .int .i64 (((k + j + t:Nat):Int)) /\ k + j + t <= n /\ Hid ((l.drop (k + j)).any isN = (l.drop (k + j + t)).any isN) /\ PB wr3 w.heap.size nilV nilV nilV nilV 0 0 0 0 0 /\ Q w wr3) (fun i _=>n - (intOf i).toNat)
       case atStart=>exact ⟨0,rfl,by omega,Hd rfl,HRB2.out,HQ2.out⟩
       case round =>
        obtain ⟨t,rfl,htn,HAR,hrb3,hq3⟩:=hrel;have HRB3:=Hd hrb3;clear hrb3;by_cases hlt4:k + j + t < n
        ·exact absurd hlt4 (by omega)
        ·have htn2:k + j + t = n:=by omega
         have hki4:¬ ((k + j + t:Nat):Int) < (n:Int):=by omega
         have hdr:(l.drop (k + j)).any isN = false:=by
          rw [HAR.out,htn2,HN.out,List.drop_length];rfl
         have hR:=HH.out;rw [hdr,if_neg (by decide)] at hR;have HR:=Hd hR;have HQ3:=Hd hq3;clear hR hdr hq3;have h1:=HV.out.take k (by rw [HNL.out];omega);have H1:=Hd h1;clear h1;go_wp2_with fail
         refine (NA.out _).mono ?_;rintro e w1 ⟨hN,hq4⟩;obtain ⟨p1,p2,p3,p4,p5,b1,b2,rfl,hN2⟩:∃ p1 p2 p3 p4 p5 b1 b2,e = .returned (.tuple #[.agg #[.slice none 0 0,.slice none 0 0,.slice none 0 0,.slice none 0 0,.int .i64 p1,.int .i64 p2,.int .i64 p3,.int .i64 p4,.int .i64 p5],.bool b1,.bool b2]) /\ ((b1 = false /\ R = none) \/ (b1 = true /\ R = some ⟨joinT [] (l.take k),joinT [] (l.drop (k + j)),⟨p1,p2,p3,p4,p5,b2⟩⟩)):=by
          rcases hN with ⟨hno,p1,p2,p3,p4,p5,rfl⟩ | ⟨nn,hsm,rfl⟩
          ·refine ⟨p1,p2,p3,p4,p5,false,false,rfl,.inl ⟨rfl,?_⟩⟩
           rw [HR.out,hno];rfl
          ·refine ⟨nn.pr,nn.se,nn.mi,nn.mf,nn.xf,true,nn.long,rfl,.inr ⟨rfl,?_⟩⟩
           rw [HR.out,hsm];rfl
         have HN2:=Hd hN2;clear hN2 hN;have HQ4:=Hd (HQ3.out.trans hq4);have HRB4:=Hd (HRB3.out.q hq4);have hgw:w.heap.size < w1.heap.size:=HRB4.out.lt;clear hq4;go_wp2_with fail
         obtain ⟨z,hz⟩:∃ z,z = w1.alloc (.cells #[.slice none 0 0,.slice none 0 0,.slice none 0 0,.slice none 0 0,.int .i64 p1,.int .i64 p2,.int .i64 p3,.int .i64 p4,.int .i64 p5] 29):=⟨_,rfl⟩;have hqz:Q w1 z:=by rw [hz];exact (Q.refl w1).alloc _
         have hpz:PB z w1.heap.size nilV nilV nilV nilV p1 p2 p3 p4 p5:=by rw [hz];exact heap_alloc_new _ _
         rw [<- hz];clear hz;refine (joined_any _ _ z (H1.out.q (HQ4.out.trans hqz)) (by rw [List.length_take,HNL.out];omega) (fun p hp=>Nat.le_trans (tkP_txt l p (List.mem_of_mem_take hp)) (by decide))).mono ?_;rintro e w2 ⟨u1,rfl,hu1,hq5⟩;obtain ⟨L1,hL1⟩:∃ L1,(joinE [] ((tkP l).take k)).length = L1:=⟨_,rfl⟩;obtain ⟨ua,uc,rfl,uc1,uc2⟩:=hu1.lst.form0 hL1;clear hL1;have HU1:=Hd hu1;have HPZ:=Hd (hpz.q hq5);have HQ5:=Hd (HQ4.out.trans (hqz.trans hq5));have HRB5:=Hd (HRB4.out.q (hqz.trans hq5));have hz2:w1.heap.size < z.heap.size:=hpz.lt;obtain ⟨G,hG⟩:∃ G,G = w1.heap.size:=⟨_,rfl⟩;rw [<- hG] at HPZ hgw hz2 |-;clear hu1 hpz hqz hq5 hG;obtain ⟨r0,r1,r2,r3,r4,r5,r6,r7,r8⟩:=HPZ.out.cells;obtain ⟨f0,f1,f2,f3,f4,f5,f6,f7,f8⟩:=HPZ.out.free;obtain ⟨y0,hy0⟩:∃ y0,y0 = z.heap.size:=⟨_,rfl⟩;rw [<- hy0] at HU1 hz2;clear hy0;rcases HV.out.rest HNL.out hfm with ⟨g3,off3,ha,hlt5,hcc,hcm,hdp⟩ | ⟨hkn,hcn,hdp⟩ | ⟨ad3,ha,hkn,hcc,hcm,hdp⟩
         ·exact absurd hlt5 hlt3
         ·have HDP:=Hd hdp
          clear hdp;go_wp2_with fail
          refine (joined_any _ ((tkP l).drop (k + j)) _ (by rw [HDP.out];exact .nil _ _ _ (by decide) (fun _=>rfl)) (by rw [List.length_drop,HNL.out];omega) (fun p hp=>Nat.le_trans (tkP_txt l p (List.mem_of_mem_drop hp)) (by decide))).mono ?_;rintro e w3 ⟨u2,rfl,hu2,hq6⟩;obtain ⟨L2,hL2⟩:∃ L2,(joinE [] ((tkP l).drop (k + j))).length = L2:=⟨_,rfl⟩;obtain ⟨va,vc,rfl,vc1,vc2⟩:=hu2.lst.form0 hL2;clear hL2;have hG3:G < w3.heap.size:=Nat.lt_of_lt_of_le (by rw [size_set];exact HPZ.out.lt) hq6.le;have hN1:=(((HU1.out.new).set (ad:=⟨G,0,none⟩) (.slice ua L1 uc) (by show G < y0;omega)).q hq6).mono (B':=G + 1) (by omega);have hN2b:=(hu2.new).mono (B':=G + 1) (by rw [size_set];have:=HPZ.out.lt;omega);have hp6:=(HPZ.out.set0 (.slice ua L1 uc)).q hq6;have hr6:=((HRB5.out).other (ad:=⟨G,0,none⟩) (by show w.heap.size ≠ G;omega) (.slice ua L1 uc)).q hq6;have hq7:=(HQ5.out.setCell (ad:=⟨G,0,none⟩) (by show w.heap.size <= G;omega) (.slice ua L1 uc)).trans hq6;have HN1:=Hd hN1;have HN2B:=Hd hN2b;have HP6:=Hd hp6;have HR6:=Hd hr6;have HQ7:=Hd hq7;clear hN1 hN2b hp6 hr6 hq7 hu2 hq6 r0 r1 r2 r3 r4 r5 r6 r7 r8 f0 f1 f2 f3 f4 f5 f6 f7 f8;obtain ⟨r0,r1,r2,r3,r4,r5,r6,r7,r8⟩:=HP6.out.cells;obtain ⟨f0,f1,f2,f3,f4,f5,f6,f7,f8⟩:=HP6.out.free;obtain ⟨t0,t1,t2,t3,t4,t5,t6,t7,t8⟩:=HR6.out.cells;obtain ⟨e0,e1,e2,e3,e4,e5,e6,e7,e8⟩:=HR6.out.free;go_wp2_with fail
          refine ret_p3 rfl rfl rfl rfl (PB.all ((HR6.out).other (ad:=⟨G,1,none⟩) (by show w.heap.size ≠ G;omega) _)) rfl ⟨?_,Q.puts (HQ7.out.setCell (ad:=⟨G,1,none⟩) (by show w.heap.size <= G;omega) _) (Nat.le_refl _) _ _ _ _ _ _ _ _ _⟩;rcases HN2.out with ⟨rfl,hr⟩ | ⟨rfl,hr⟩
          ·exact .inl ⟨hr,_,_,_,_,_,_,_,_,_,_,_,_,rfl⟩
          ·have k1:=HN1.out
           have k2:=HN2B.out;rw [tkP_take,joinE_tk] at k1;rw [tkP_drop,joinE_tk] at k2;exact .inr ⟨_,_,_,hr,rfl,((k1.set (ad:=⟨G,1,none⟩) _ (Nat.lt_succ_self G)).puts (by omega) _ _ _ _ _ _ _ _ _).mono (by omega),((k2.set (ad:=⟨G,1,none⟩) _ (Nat.lt_succ_self G)).puts (by omega) _ _ _ _ _ _ _ _ _).mono (by omega)⟩
         ·have HDP:=Hd hdp
          clear hdp;first
          | cases ha
          | skip
          go_wp2_with fail
          refine (joined_any _ ((tkP l).drop (k + j)) _ (by rw [HDP.out];exact .nil _ _ _ (by unfold maxLen;omega) (fun h=>nomatch h)) (by rw [List.length_drop,HNL.out];omega) (fun p hp=>Nat.le_trans (tkP_txt l p (List.mem_of_mem_drop hp)) (by decide))).mono ?_;rintro e w3 ⟨u2,rfl,hu2,hq6⟩;obtain ⟨L2,hL2⟩:∃ L2,(joinE [] ((tkP l).drop (k + j))).length = L2:=⟨_,rfl⟩;obtain ⟨va,vc,rfl,vc1,vc2⟩:=hu2.lst.form0 hL2;clear hL2;have hG3:G < w3.heap.size:=Nat.lt_of_lt_of_le (by rw [size_set];exact HPZ.out.lt) hq6.le;have hN1:=(((HU1.out.new).set (ad:=⟨G,0,none⟩) (.slice ua L1 uc) (by show G < y0;omega)).q hq6).mono (B':=G + 1) (by omega);have hN2b:=(hu2.new).mono (B':=G + 1) (by rw [size_set];have:=HPZ.out.lt;omega);have hp6:=(HPZ.out.set0 (.slice ua L1 uc)).q hq6;have hr6:=((HRB5.out).other (ad:=⟨G,0,none⟩) (by show w.heap.size ≠ G;omega) (.slice ua L1 uc)).q hq6;have hq7:=(HQ5.out.setCell (ad:=⟨G,0,none⟩) (by show w.heap.size <= G;omega) (.slice ua L1 uc)).trans hq6;have HN1:=Hd hN1;have HN2B:=Hd hN2b;have HP6:=Hd hp6;have HR6:=Hd hr6;have HQ7:=Hd hq7;clear hN1 hN2b hp6 hr6 hq7 hu2 hq6 r0 r1 r2 r3 r4 r5 r6 r7 r8 f0 f1 f2 f3 f4 f5 f6 f7 f8;obtain ⟨r0,r1,r2,r3,r4,r5,r6,r7,r8⟩:=HP6.out.cells;obtain ⟨f0,f1,f2,f3,f4,f5,f6,f7,f8⟩:=HP6.out.free;obtain ⟨t0,t1,t2,t3,t4,t5,t6,t7,t8⟩:=HR6.out.cells;obtain ⟨e0,e1,e2,e3,e4,e5,e6,e7,e8⟩:=HR6.out.free;go_wp2_with fail
          refine ret_p3 rfl rfl rfl rfl (PB.all ((HR6.out).other (ad:=⟨G,1,none⟩) (by show w.heap.size ≠ G;omega) _)) rfl ⟨?_,Q.puts (HQ7.out.setCell (ad:=⟨G,1,none⟩) (by show w.heap.size <= G;omega) _) (Nat.le_refl _) _ _ _ _ _ _ _ _ _⟩;rcases HN2.out with ⟨rfl,hr⟩ | ⟨rfl,hr⟩
          ·exact .inl ⟨hr,_,_,_,_,_,_,_,_,_,_,_,_,rfl⟩
          ·have k1:=HN1.out
           have k2:=HN2B.out;rw [tkP_take,joinE_tk] at k1;rw [tkP_drop,joinE_tk] at k2;exact .inr ⟨_,_,_,hr,rfl,((k1.set (ad:=⟨G,1,none⟩) _ (Nat.lt_succ_self G)).puts (by omega) _ _ _ _ _ _ _ _ _).mono (by omega),((k2.set (ad:=⟨G,1,none⟩) _ (Nat.lt_succ_self G)).puts (by omega) _ _ _ _ _ _ _ _ _).mono (by omega)⟩
end Pr
end
end Go.Proofs.YteggfkbnnmpcjaaGreatDoor
