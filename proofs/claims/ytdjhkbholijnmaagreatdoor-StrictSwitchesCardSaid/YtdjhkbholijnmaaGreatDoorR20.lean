/- The iterator over where a text's clusters begin. (and more) -/
import Derived.Test.YtdjhkbholijnmaaGreatDoorR19
set_option linter.all false
set_option maxRecDepth 100000
set_option maxHeartbeats 8000000
namespace Go.Proofs.YtdjhkbholijnmaaGreatDoor
section
open Go.RowKit Go.Shelf Um Cm Gm
attribute [local go_sem] Oper.semAt_some
def SetB (pb lo:Nat) (k:Nat):Prop:=k = pb \/ (lo <= k /\ k < lo + 4)
theorem JS.stand {w w':World} {b pb:Nat} {t:St} (h:JS w b t) (hs:Stand (SetB pb b) w w'):JS w' b t :=
 ⟨hs.heap (.inr (by omega)) h.1,hs.heap (.inr (by omega)) h.2.1,hs.heap (.inr (by omega)) h.2.2.1,hs.heap (.inr (by omega)) h.2.2.2⟩
theorem begins_any (s:ByteArray) (w:World) :
  Calls Tryz.prog 197 #[.string s] w fun e w'=>e = .returned (.func (.func 211) #[] #[.pointer (some ⟨w.heap.size,0,none⟩)]) /\ w' = w.alloc (.cells #[.string s] 9):=by
 go_enter Tryz.func197,Tryz.ntmps197
 go_wp2_with fail
 go_ret
 exact ⟨rfl,rfl⟩
theorem fst3_mrk {l:List UInt8} (h:l ≠ []):fst3 l = ((mrk l).1,((mrk l).2.1:Int),(mrk l).2.2):=by unfold fst3;rw [if_neg h]
theorem begins_iter (s:ByteArray) (pb lo:Nat) (w0:World) (hs:s.size <= maxLen) (hpb:Boxed w0 pb 9 (.string s)) (hlo:pb < lo) :
  Iter 211 #[.pointer (some ⟨pb,0,none⟩)] (fun x:Int=>#[Value.int .i64 x]) lo (lo + 4) (SetB pb lo) (fun pre=>pre <+: begL s.data.toList) (fun xs=>xs = begL s.data.toList) w0:=by
 intro l J Jx W hW hqW hJ hY h0;have hbox:=bx_q hpb hqW;have hsl:=size_list s;obtain ⟨L,hL⟩:∃ L,L = s.data.toList:=⟨_,rfl⟩;unfold maxLen at hs;refine callsIn_of_wp Tryz.func211 rfl trivial ?_ rfl;simp only [Tryz.ntmps211,List.size_toArray,List.length_cons,List.length_nil,Nat.reduceAdd,Nat.reduceSub,Array.replicate_succ,Array.replicate_zero,List.push_toArray,List.append_toArray,List.nil_append,List.cons_append];gi_wp2_with fail
 refine ⟨trivial,rfl,(callsIn_wide.2 (joiner_any W)).mono ?_⟩;rintro e w1 ⟨rfl,hjs,hq1,hz1⟩;rw [hW] at hjs hz1 |-;have hbox1:=bx_q hbox hq1;have h1:=hJ _ _ _ h0 (hq1.gap _ _);have HZ:=Hd hz1;have HS:=Hd hsl;have HW:=Hd hW;have hz1:lo + 4 <= w1.heap.size:=by omega
 clear hsl hW h0 hqW hbox hpb;gi_wp2_with fail
 gi_loopw [4] (fun v wr=>∃ (pos:Nat) (ms:List (Int × Nat × Bool)),v = .int .i64 pos /\ marks L = ms ++ marks (L.drop pos) /\ width ms = pos /\ pos <= s.size /\ JS wr lo (stMs ms) /\ J (begF st0 0 ms) wr /\ Boxed wr pb 9 (.string s) /\ lo + 4 <= wr.heap.size) (fun v _=>s.size - (intOf v).toNat)
 case atStart=>exact ⟨0,[],rfl,by simp,rfl,by omega,hjs,h1,hbox1,hz1⟩
 case round =>
  obtain ⟨pos,ms,rfl,hms,hwid,hpos,hjr,hJr,hbr,hzr⟩:=hrel;have cb:=hbr.cell;have fb:=hbr.frozen;by_cases hlt:pos < s.size
  ·have hne:=drop_ne hlt
   have hx:=extract_list s pos;have hF:=fun w=>first_any (s.extract pos s.size) w (by rw [ByteArray.size_extract];unfold maxLen;omega);rw [hx,fst3_mrk hne] at hF;have hma:=marks_at s pos hlt;have hmn:=mark_at_n s pos hlt;have hcc:=(vld_iff _).1 (dec_c _ hne);rw [show (((dec (s.data.toList.drop pos)).1:Nat):Int) = (mrk (s.data.toList.drop pos)).1 from rfl] at hcc;generalize mrk (s.data.toList.drop pos) = X at *;obtain ⟨c,n,ok⟩:=X;simp only at hF hma hmn hcc;rw [hL] at hms;rw [hma] at hms;have HF:=Hd hF;have HM:=Hd hms;have HWd:=Hd hwid;clear hF hms hwid hma hx hne;gi_wp2_with fail
   refine ⟨trivial,rfl,(callsIn_wide.2 (HF.out _)).mono ?_⟩;rintro e w2 ⟨rfl,hq2⟩;have hj2:=hjr.q hq2;have hJ2:=hJ _ _ _ hJr (hq2.gap _ _);have hb2:=bx_q hbr hq2;have hz2:=hq2.le;have cb2:=hb2.cell;have fb2:=hb2.frozen;have hjc:=fun w h=>joins_any c lo (stMs ms) w h;have hbs:=begF_snoc ms (c,n,ok);have hsm:=stMs_snoc ms (c,n,ok);have hws:=width_snoc ms (c,n,ok);have hpre:=begF_pre (ms ++ [(c,n,ok)]) (marks (s.data.toList.drop (pos + n)));rw [List.append_assoc,List.cons_append,List.nil_append,<- HM.out] at hpre;simp only at hbs hsm hws;obtain ⟨b,hb⟩:∃ b,b = jn (stMs ms) (cls c):=⟨_,rfl⟩;rw [<- hb] at hbs hjc;rw [HWd.out] at hbs hws;have HJC:=Hd hjc;have HBS:=Hd hbs;have HSM:=Hd hsm;have HWS:=Hd hws;have HPR:=Hd hpre;clear hjc hbs hsm hws hpre hb;gi_wp2_with fail
   refine ⟨trivial,rfl,(callsIn_wide.2 (HJC.out _ hj2)).mono ?_⟩;rintro e w3 ⟨rfl,hj3,hg3⟩;rw [<- HSM.out] at hj3;have hJ3:=hJ _ _ _ hJ2 hg3;have hb3:=bx_gap hb2 hg3 (.inl hlo);have hz3:lo + 4 <= w3.heap.size:=by have:=hg3.size;omega
   cases b
   ·obtain ⟨fn,tmps,assign,body,hy,hR⟩:=hY (begF st0 0 ms) pos w3 hJ3 hz3 (by
     have h:=HPR.out;rw [HBS.out] at h;exact h)
    gi_wp2_with fail
    refine ⟨rfl,hR.mono ?_⟩;rintro e w4 (⟨rfl,hJ4,hk4⟩ | ⟨rfl,hJx⟩)
    ·have hj4:=hj3.stand hk4
     have hb4:Boxed w4 pb 9 (.string s):=hk4.heap (.inl rfl) hb3;have hz4:=hk4.size;have hJ4':J (begF st0 0 (ms ++ [(c,n,ok)])) w4:=by rw [HBS.out];exact hJ4
     gi_wp2_with fail
     go_roundw
     case rel=>exact ⟨pos + n,ms ++ [(c,n,ok)],by go_num,by rw [hL,HM.out,List.append_assoc];rfl,HWS.out,hmn.2,hj4,hJ4',hb4,by omega⟩
     case measure=>simp [intOf];omega
    ·gi_wp2_with fail
     refine bodyPost_ret (results_none rfl _ _ _) rfl ?_;refine ⟨⟨_,rfl⟩,.inr ⟨_,?_,hJx⟩⟩;have h:=HPR.out;rw [HBS.out] at h;exact h
   ·have hJ3':J (begF st0 0 (ms ++ [(c,n,ok)])) w3:=by rw [HBS.out,if_pos rfl,List.append_nil];exact hJ3
    gi_wp2_with fail
    refine ⟨(fun _ h=>nomatch h),?_⟩;gi_wp2_with fail
    go_roundw
    case rel=>exact ⟨pos + n,ms ++ [(c,n,ok)],by go_num,by rw [hL,HM.out,List.append_assoc];rfl,HWS.out,hmn.2,hj3,hJ3',hb3,hz3⟩
    case measure=>simp [intOf];omega
  ·have hend:marks s.data.toList = ms:=by
    rw [hL] at hms;rw [marks_end s pos hlt,List.append_nil] at hms;exact hms
   have HE:=Hd hend;clear hend hms hwid;gi_wp2_with fail
   go_end0
   exact ⟨⟨_,rfl⟩,.inl ⟨_,by unfold begL;rw [HE.out],hJr⟩⟩
end
section
open Go.RowKit Um Cm Gm
theorem Q.joined {a w w':World} {b:Nat} (h:Q a w) (hg:Gap b (b + 4) w w') (hb:a.heap.size <= b):Q a w' :=
 Below.trans h ⟨hg.os,hg.tape,hg.output,hg.size,fun k hk=>hg.block k (Nat.lt_of_lt_of_le hk h.size) (.inl (by omega))⟩
end
end Go.Proofs.YtdjhkbholijnmaaGreatDoor
