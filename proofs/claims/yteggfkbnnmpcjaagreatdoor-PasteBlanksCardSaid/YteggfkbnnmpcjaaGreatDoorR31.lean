/- The document's own answers on clusters. (and more) -/
import Derived.Test.YteggfkbnnmpcjaaGreatDoorR10
import Derived.Test.YteggfkbnnmpcjaaGreatDoorR30
set_option linter.all false
set_option maxRecDepth 100000
set_option maxHeartbeats 8000000
namespace Go.Proofs.YteggfkbnnmpcjaaGreatDoor
section
open Go.RowKit Um Cm Gm
namespace Gr
theorem ends_any (k:Int) (w:World) :
  Calls Tryz.prog 122 #[.int .i64 k] w fun e w'=>e = .returned (.bool (alB k)) /\ w = w':=by
 go_enter Tryz.func122,Tryz.ntmps122
 go_wp2_with fail
 all_goals go_ret
 all_goals exact ⟨retB (by simp_all [alB] <;> rfl),rfl⟩
theorem hangul_any (a k:Int) (w:World) :
  Calls Tryz.prog 123 #[.int .i64 a,.int .i64 k] w fun e w'=>e = .returned (.bool (sylB a k)) /\ w = w':=by
 go_enter Tryz.func123,Tryz.ntmps123
 go_wp2_with fail
 all_goals go_ret
 all_goals exact ⟨retB (by simp_all [sylB] <;> rfl),rfl⟩
def rc (xs:List Int):List Nat:=(xs.map cls).reverse
theorem rc_take (xs:List Int) (i:Nat) (h:i < xs.length):rc (xs.take (i + 1)) = cls (xs.getD i 0) :: rc (xs.take i):=by
 unfold rc;rw [List.take_succ_eq_append_getElem h,List.map_append,List.reverse_append,List.getD_eq_getElem?_getD,List.getElem?_eq_getElem h];rfl
theorem rc_last (xs:List Int) (n:Nat) (h:xs.length = n + 1):rc xs = cls (xs.getD n 0) :: rc (xs.take n):=by
 have:=rc_take xs n (by omega);rwa [List.take_of_length_le (by omega)] at this
theorem refR_cons (a:Nat) (r:List Nat) (k:Int):refR (a :: r) k = (if a = 1 /\ k = 2 then true else if alB a = true \/ alB k = true then false
  else if sylB a k = true \/ k = 4 \/ k = 5 \/ k = 8 \/ a = 7 then true
  else if a = 5 /\ k = 14 then decide ((r.dropWhile (· == 4)).head? = some 14)
  else decide (k = 6) && decide (((a :: r).takeWhile (· == 6)).length % 2 = 1)):=rfl
def past (r:List Nat):Option Nat:=(r.dropWhile (· == 4)).head?
theorem past_nil:past [] = none:=rfl
theorem past_four (r:List Nat):past (4 :: r) = past r:=by unfold past;rw [List.dropWhile_cons_of_pos (by simp)]
theorem past_stop (k:Nat) (r:List Nat) (h:k ≠ 4):past (k :: r) = some k:=by unfold past;rw [List.dropWhile_cons_of_neg (by simpa using h)];rfl
def regs (r:List Nat):Nat:=(r.takeWhile (· == 6)).length
theorem regs_cons (r:List Nat):regs (6 :: r) = regs r + 1:=by unfold regs;rw [List.takeWhile_cons_of_pos (by simp)];rfl
theorem regs_stop (k:Nat) (r:List Nat) (h:k ≠ 6):regs (k :: r) = 0:=by unfold regs;rw [List.takeWhile_cons_of_neg (by simpa using h)];rfl
theorem regs_le (r:List Nat):regs r <= r.length:=by
 unfold regs;exact (List.takeWhile_sublist _).length_le
theorem joined_any (v:Value) (xs:List Int) (c:Int) (w:World) (hv:Lst w v xs) (hx:xs.length <= 1073741824) :
  Calls Tryz.prog 61 #[v,.int .i64 c] w fun e w'=>e = .returned (.bool (refR (rc xs) (cls c))) /\ Q w w':=by
 obtain ⟨ad,cp,rfl⟩:=hv.shape;obtain ⟨n,hn⟩:∃ n,n = xs.length:=⟨_,rfl⟩;rw [<- hn] at hv hx |-;cases n with
 | zero =>
  have h0:xs = []:=List.eq_nil_of_length_eq_zero hn.symm;subst h0;clear hn;go_enter Tryz.func61,Tryz.ntmps61
  go_wp2_with fail
  go_ret
  exact ⟨rfl,Q.refl _⟩
 | succ n =>
  obtain ⟨g,off,cap,hvv,hg,h1,h2,hcell⟩:=hv.form hn.symm;cases hvv;have c1:=hcell n (by omega);have hrl:=rc_last xs n hn.symm;have hcast:(((n + 1:Nat):Int) - 1) = n:=by omega
  have HN:=Hd hn;have HCell:=Hd hcell;obtain ⟨x,hxx⟩:∃ x,x = xs.getD n 0:=⟨_,rfl⟩;rw [<- hxx] at c1 hrl;have hof1:=fun w=>Cr.of_any x w;have hof2:=fun w=>Cr.of_any c w;obtain ⟨a,ha⟩:∃ a,a = cls x:=⟨_,rfl⟩;obtain ⟨k,hk⟩:∃ k,k = cls c:=⟨_,rfl⟩;rw [<- ha] at hof1 hrl;rw [<- hk] at hof2 |-;rw [hrl];have HRL:=Hd hrl;have HX:=Hd hxx;have HO1:=Hd hof1;have HO2:=Hd hof2;clear hn hcell hrl hxx ha hk hof1 hof2;have hends:=fun w=>ends_any (a:Int) w;have hendk:=fun w=>ends_any (k:Int) w;have hhan:=fun w=>hangul_any (a:Int) (k:Int) w;generalize hB:refR (a :: rc (xs.take n)) (k:Int) = B;have hB':=hB;rw [refR_cons] at hB';by_cases c1':a = 1 /\ k = 2
  ·obtain ⟨rfl,rfl⟩:=c1'
   rw [if_pos ⟨rfl,rfl⟩] at hB';subst hB';clear hB hends hendk hhan;go_enter Tryz.func61,Tryz.ntmps61
   go_wp2_with fail
   refine (HO1.out _).mono ?_;rintro e w1 ⟨rfl,hq1⟩;go_wp2_with fail
   refine (HO2.out _).mono ?_;rintro e w2 ⟨rfl,hq2⟩;go_wp2_with fail
   go_ret
   exact ⟨rfl,hq1.trans hq2⟩
  ·rw [if_neg (by omega)] at hB'
   by_cases c2:alB (a:Int) = true \/ alB (k:Int) = true
   ·rw [if_pos c2] at hB'
    subst hB';clear hB hhan;by_cases c3:alB (a:Int) = true
    ·rw [c3] at hends
     have HE:=Hd hends;clear hends hendk c2 c3;by_cases c4:a = 1
     ·subst c4
      have e2:((k:Int) == 2) = false:=by rw [beq_eq_false_iff_ne];omega
      clear c1';go_enter Tryz.func61,Tryz.ntmps61
      go_wp2_with fail
      refine (HO1.out _).mono ?_;rintro e w1 ⟨rfl,hq1⟩;go_wp2_with fail
      refine (HO2.out _).mono ?_;rintro e w2 ⟨rfl,hq2⟩;go_wp2_with (go_at_call 122;refine (HE.out _).mono ?_;rintro e w' ⟨rfl,rfl⟩)
      go_ret
      exact ⟨rfl,hq1.trans hq2⟩
     ·have e1:((a:Int) == 1) = false:=by rw [beq_eq_false_iff_ne];omega
      clear c1' c4;go_enter Tryz.func61,Tryz.ntmps61
      go_wp2_with fail
      refine (HO1.out _).mono ?_;rintro e w1 ⟨rfl,hq1⟩;go_wp2_with fail
      refine (HO2.out _).mono ?_;rintro e w2 ⟨rfl,hq2⟩;go_wp2_with (go_at_call 122;refine (HE.out _).mono ?_;rintro e w' ⟨rfl,rfl⟩)
      go_ret
      exact ⟨rfl,hq1.trans hq2⟩
    ·have c5:alB (k:Int) = true:=c2.resolve_left c3
     have c3:alB (a:Int) = false:=by simpa using c3
     rw [c3] at hends;rw [c5] at hendk;have e1:((a:Int) == 1) = false:=by
      rw [beq_eq_false_iff_ne];intro h;rw [h] at c3;revert c3;decide
     have HE:=Hd hends;have HK:=Hd hendk;clear hends hendk c2 c3 c5 c1';go_enter Tryz.func61,Tryz.ntmps61
     go_wp2_with fail
     refine (HO1.out _).mono ?_;rintro e w1 ⟨rfl,hq1⟩;go_wp2_with fail
     refine (HO2.out _).mono ?_;rintro e w2 ⟨rfl,hq2⟩;go_wp2_with fail
     refine (HE.out _).mono ?_;rintro e w' ⟨rfl,rfl⟩;go_wp2_with fail
     refine (HK.out _).mono ?_;rintro e w' ⟨rfl,rfl⟩;go_wp2_with fail
     go_ret
     exact ⟨rfl,hq1.trans hq2⟩
   ·rw [if_neg c2] at hB'
    have c3:alB (a:Int) = false:=by
     cases h:alB (a:Int)
     ·rfl
     ·exact absurd (.inl h) c2
    have c4:alB (k:Int) = false:=by
     cases h:alB (k:Int)
     ·rfl
     ·exact absurd (.inr h) c2
    rw [c3] at hends;rw [c4] at hendk;have e1:((a:Int) == 1) = false:=by
     rw [beq_eq_false_iff_ne];intro h;rw [h] at c3;revert c3;decide
    have HE:=Hd hends;have HK:=Hd hendk;clear hends hendk c2 c3 c4 c1';cases hs:sylB (a:Int) (k:Int)
    ·rw [hs] at hhan hB'
     have HH:=Hd hhan;clear hhan hs;by_cases d:(k:Int) = 4 \/ (k:Int) = 5 \/ (k:Int) = 8 \/ a = 7
     ·rw [if_pos (.inr d)] at hB'
      subst hB';clear hB;have d':k = 4 \/ k = 5 \/ k = 8 \/ (a = 7 /\ ((k:Int) == 4) = false /\ ((k:Int) == 5) = false /\ ((k:Int) == 8) = false):=by
       by_cases k4:k = 4
       ·exact .inl k4
       by_cases k5:k = 5
       ·exact .inr (.inl k5)
       by_cases k8:k = 8
       ·exact .inr (.inr (.inl k8))
       refine .inr (.inr (.inr ⟨by omega,?_,?_,?_⟩)) <;> rw [beq_eq_false_iff_ne] <;> omega
      clear d;rcases d' with rfl | rfl | rfl | ⟨rfl,f4,f5,f8⟩;all_goals
       go_enter Tryz.func61,Tryz.ntmps61
       go_wp2_with fail
       refine (HO1.out _).mono ?_;rintro e w1 ⟨rfl,hq1⟩;go_wp2_with fail
       refine (HO2.out _).mono ?_;rintro e w2 ⟨rfl,hq2⟩;go_wp2_with fail
       refine (HE.out _).mono ?_;rintro e w' ⟨rfl,rfl⟩;go_wp2_with fail
       refine (HK.out _).mono ?_;rintro e w' ⟨rfl,rfl⟩;go_wp2_with fail
       refine (HH.out _).mono ?_;rintro e w' ⟨rfl,rfl⟩;go_wp2_with fail
       go_ret
       exact ⟨rfl,hq1.trans hq2⟩
     ·rw [if_neg (by rintro (h | h);exact absurd h (by simp);exact d h)] at hB'
      have f4:((k:Int) == 4) = false:=by rw [beq_eq_false_iff_ne];omega
      have f5:((k:Int) == 5) = false:=by rw [beq_eq_false_iff_ne];omega
      have f8:((k:Int) == 8) = false:=by rw [beq_eq_false_iff_ne];omega
      have f7:((a:Int) == 7) = false:=by rw [beq_eq_false_iff_ne];omega
      clear d hB;by_cases e5:a = 5 /\ k = 14
      ·obtain ⟨rfl,rfl⟩:=e5
       rw [if_pos ⟨rfl,rfl⟩] at hB';have hc2:(((n + 1:Nat):Int) - 2) = (n:Int) - 1:=by omega
       have hB2:decide (past (rc (xs.take n)) = some 14) = B:=hB';have HB:=Hd hB2;clear hB' hB2 f4 f5 f8 f7 e1;go_enter Tryz.func61,Tryz.ntmps61
       go_wp2_with fail
       refine (HO1.out _).mono ?_;rintro e w1 ⟨rfl,hq1⟩;go_wp2_with fail
       refine (HO2.out _).mono ?_;rintro e w2 ⟨rfl,hq2⟩;go_wp2_with fail
       refine (HE.out _).mono ?_;rintro e w' ⟨rfl,rfl⟩;go_wp2_with fail
       refine (HK.out _).mono ?_;rintro e w' ⟨rfl,rfl⟩;go_wp2_with fail
       refine (HH.out _).mono ?_;rintro e w' ⟨rfl,rfl⟩;have hq12:=hq1.trans hq2;go_wp2_with fail
       go_loopw [7] (fun v wr=>∃ i:Int,v = .int .i64 i /\ -1 <= i /\ i < n /\ Q w wr /\ past (rc (xs.take (i + 1).toNat)) = past (rc (xs.take n))) (fun v _=>(intOf v + 1).toNat)
       case atStart=>exact ⟨(n:Int) - 1,by rw [show (n:Int) + 1 - 2 = (n:Int) - 1 from by omega],by omega,by omega,hq12,by rw [show ((n:Int) - 1 + 1).toNat = n from by omega]⟩
       case round =>
        obtain ⟨i,rfl,hi,hin,hq,hp⟩:=hrel;have HP:=Hd hp;clear hp;by_cases hm:i = -1
        ·subst hm
         have hF:B = false:=by
          rw [<- HB.out,<- HP.out];simp [rc,past_nil]
         have HF:=Hd hF;clear hF;go_wp2_with fail
         go_ret
         rw [HF.out];exact ⟨rfl,hq⟩
        ·obtain ⟨j,rfl⟩:∃ j:Nat,i = (j:Int):=⟨i.toNat,by omega⟩
         have hj0:(0:Int) <= (j:Int):=by omega
         have hjn:j < n:=by omega
         have d1:wr.cell? ⟨g,off + j,none⟩ = some (.int .i64 (xs.getD j 0)):=(World.cell?_of_block (w:=w) (hq.block hg)).trans (HCell.out j (by omega));have hrt:=rc_take xs j (by rw [<- HN.out];omega);have hpp:=HP.out;rw [show ((j:Int) + 1).toNat = j + 1 from by omega,hrt] at hpp;obtain ⟨y,hy⟩:∃ y,y = xs.getD j 0:=⟨_,rfl⟩;rw [<- hy] at d1 hpp;obtain ⟨q,hqq⟩:∃ q,q = cls y:=⟨_,rfl⟩;have hofy:=fun w=>Cr.of_any y w;rw [<- hqq] at hofy hpp;have HOY:=Hd hofy;have HPP:=Hd hpp;clear hofy hpp hqq hy hrt hm;by_cases h4:q = 4
         ·subst h4
          go_wp2_with fail
          refine (HOY.out _).mono ?_;rintro e w3 ⟨rfl,hq3⟩;go_wp2_with fail
          go_roundw
          case rel=>exact ⟨(j:Int) - 1,rfl,by omega,by omega,hq.trans hq3,by rw [show ((j:Int) - 1 + 1).toNat = j from by omega,<- HPP.out,past_four]⟩
          case measure=>simp [intOf]
         ·have g4:((q:Int) == 4) = false:=by rw [beq_eq_false_iff_ne];omega
          have hF:B = ((q:Int) == 14):=by
           rw [<- HB.out,<- HPP.out,past_stop _ _ h4,Bool.eq_iff_iff];simp;omega
          have HF:=Hd hF;clear hF h4;go_wp2_with fail
          refine (HOY.out _).mono ?_;rintro e w3 ⟨rfl,hq3⟩;have d3:=(World.cell?_of_block (w:=wr) (a:=⟨g,off + j,none⟩) (hq3.block (Nat.lt_of_lt_of_le hg hq.le))).trans d1;go_wp2_with fail
          refine (HOY.out _).mono ?_;rintro e w4 ⟨rfl,hq4⟩;go_wp2_with fail
          go_ret
          rw [HF.out];exact ⟨rfl,(hq.trans hq3).trans hq4⟩
      ·rw [if_neg (by omega)] at hB'
       have hB2:(decide ((k:Int) = 6) && decide (regs (a :: rc (xs.take n)) % 2 = 1)) = B:=hB';rw [<- HRL.out] at hB2;have HB:=Hd hB2;have hrlen:regs (rc xs) <= n + 1:=by
        have:=regs_le (rc xs);unfold rc at this |-;rw [List.length_reverse,List.length_map,<- HN.out] at this;exact this
       have he5:(((a:Int) == 5) = false) \/ (a = 5 /\ ((k:Int) == 14) = false):=by
        by_cases h:a = 5
        ·exact .inr ⟨h,by rw [beq_eq_false_iff_ne];omega⟩
        ·exact .inl (by rw [beq_eq_false_iff_ne];omega)
       have hk6:(((k:Int) == 6) = true /\ Hid (B = decide (regs (rc xs) % 2 = 1))) \/ (((k:Int) == 6) = false /\ Hid (B = false)):=by
        rw [<- hB2];by_cases h:k = 6
        ·refine .inl ⟨by rw [beq_iff_eq];omega,Hd ?_⟩
         have:decide ((k:Int) = 6) = true:=decide_eq_true (by omega);rw [this];rfl
        ·refine .inr ⟨by rw [beq_eq_false_iff_ne];omega,Hd ?_⟩
         have:decide ((k:Int) = 6) = false:=decide_eq_false (by omega);rw [this];rfl
       have hT:∀ m':Nat,regs (rc xs) = m' -> decide (regs (rc xs) % 2 = 1) = ((m':Int) % 2 == 1):=by
        intro m' h;rw [h,Bool.eq_iff_iff];simp;omega
       have HT:=Hd hT;clear hT;clear hB' hB2 e5;rcases he5 with f5' | ⟨rfl,f14⟩;all_goals
        rcases hk6 with ⟨f6,HF⟩ | ⟨f6,HF⟩
       all_goals
        go_enter Tryz.func61,Tryz.ntmps61
        go_wp2_with fail
        refine (HO1.out _).mono ?_;rintro e w1 ⟨rfl,hq1⟩;go_wp2_with fail
        refine (HO2.out _).mono ?_;rintro e w2 ⟨rfl,hq2⟩;go_wp2_with fail
        refine (HE.out _).mono ?_;rintro e w' ⟨rfl,rfl⟩;go_wp2_with fail
        refine (HK.out _).mono ?_;rintro e w' ⟨rfl,rfl⟩;go_wp2_with fail
        refine (HH.out _).mono ?_;rintro e w' ⟨rfl,rfl⟩;have hq12:=hq1.trans hq2;go_wp2_with fail
        go_loopw [8,9] (fun u v wr=>∃ (i:Int) (m:Nat),u = .int .i64 m /\ v = .int .i64 i /\ -1 <= i /\ i <= n /\ Q w wr /\ m + regs (rc (xs.take (i + 1).toNat)) = regs (rc xs) /\ m <= n + 1) (fun _ v _=>(intOf v + 1).toNat)
        case atStart=>exact ⟨(n:Int),0,rfl,by first | rfl | (congr 1;omega),by omega,by omega,hq12,by rw [show ((n:Int) + 1).toNat = n + 1 from by omega,List.take_of_length_le (by rw [<- HN.out];omega)];omega,by omega⟩
        case round =>
         obtain ⟨i,m,rfl,rfl,hi,hin,hq,hp,hmn⟩:=hrel;have HP:=Hd hp;clear hp;by_cases hm:i = -1
         ·subst hm
          have HR:=Hd (show regs (rc xs) = m by rw [<- HP.out];simp [rc,regs]);go_wp2_with fail
          go_ret
          first | exact ⟨retB (by rw [HF.out];exact (HT.out m HR.out).symm),hq⟩ | exact ⟨retB HF.out.symm,hq⟩
         ·obtain ⟨j,rfl⟩:∃ j:Nat,i = (j:Int):=⟨i.toNat,by omega⟩
          have hj0:(0:Int) <= (j:Int):=by omega
          have hjn:j < n + 1:=by omega
          have d1:wr.cell? ⟨g,off + j,none⟩ = some (.int .i64 (xs.getD j 0)):=(World.cell?_of_block (w:=w) (hq.block hg)).trans (HCell.out j hjn);have hrt:=rc_take xs j (by rw [<- HN.out];exact hjn);have hpp:=HP.out;rw [show ((j:Int) + 1).toNat = j + 1 from by omega,hrt] at hpp;obtain ⟨y,hy⟩:∃ y,y = xs.getD j 0:=⟨_,rfl⟩;rw [<- hy] at d1 hpp;obtain ⟨q,hqq⟩:∃ q,q = cls y:=⟨_,rfl⟩;have hofy:=fun w=>Cr.of_any y w;rw [<- hqq] at hofy hpp;have HOY:=Hd hofy;have HPP:=Hd hpp;clear hofy hpp hqq hy hrt hm;by_cases h6:q = 6
          ·subst h6
           have hpn:=HPP.out;rw [regs_cons] at hpn;have hm1:m + 1 <= n + 1:=by omega
           have HPN:=Hd hpn;clear hpn;go_wp2_with fail
           refine (HOY.out _).mono ?_;rintro e w3 ⟨rfl,hq3⟩;go_wp2_with fail
           go_roundw
           case rel=>exact ⟨(j:Int) - 1,m + 1,by go_num,rfl,by omega,by omega,hq.trans hq3,by rw [show ((j:Int) - 1 + 1).toNat = j from by omega];have:=HPN.out;omega,hm1⟩
           case measure=>simp [intOf]
          ·have g6:((q:Int) == 6) = false:=by rw [beq_eq_false_iff_ne];omega
           have g6':((q:Int) != 6) = true:=by rw [bne_iff_ne];omega
           have HR:=Hd (show regs (rc xs) = m by rw [<- HPP.out,regs_stop _ _ h6];rfl);clear h6;go_wp2_with fail
           refine (HOY.out _).mono ?_;rintro e w3 ⟨rfl,hq3⟩;go_wp2_with fail
           go_ret
           first | exact ⟨retB (by rw [HF.out];exact (HT.out m HR.out).symm),hq.trans hq3⟩ | exact ⟨retB HF.out.symm,hq.trans hq3⟩
    ·rw [hs] at hhan hB'
     rw [if_pos (.inl rfl)] at hB';subst hB';have HH:=Hd hhan;clear hhan hs hB;go_enter Tryz.func61,Tryz.ntmps61
     go_wp2_with fail
     refine (HO1.out _).mono ?_;rintro e w1 ⟨rfl,hq1⟩;go_wp2_with fail
     refine (HO2.out _).mono ?_;rintro e w2 ⟨rfl,hq2⟩;go_wp2_with fail
     refine (HE.out _).mono ?_;rintro e w' ⟨rfl,rfl⟩;go_wp2_with fail
     refine (HK.out _).mono ?_;rintro e w' ⟨rfl,rfl⟩;go_wp2_with fail
     refine (HH.out _).mono ?_;rintro e w' ⟨rfl,rfl⟩;go_wp2_with fail
     go_ret
     exact ⟨rfl,hq1.trans hq2⟩
end Gr
end
end Go.Proofs.YteggfkbnnmpcjaaGreatDoor
