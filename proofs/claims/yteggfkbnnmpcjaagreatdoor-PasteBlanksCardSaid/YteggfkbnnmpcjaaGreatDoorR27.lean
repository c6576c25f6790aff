/- The iterator over where a text's clusters begin. (and more) -/
import Derived.Test.YteggfkbnnmpcjaaGreatDoorR26
import Derived.Test.YteggfkbnnmpcjaaGreatDoorR17
import Derived.Test.YteggfkbnnmpcjaaGreatDoorR23
set_option linter.all false
set_option maxRecDepth 100000
set_option maxHeartbeats 8000000
namespace Go.Proofs.YteggfkbnnmpcjaaGreatDoor
section
open Go.RowKit Go.Shelf Um Cm Gm
attribute [local go_sem] Oper.semAt_some
def SetB (pb lo:Nat) (k:Nat):Prop:=k = pb \/ (lo <= k /\ k < lo + 4)
theorem JS.stand {w w':World} {b pb:Nat} {t:St} (h:JS w b t) (hs:Stand (SetB pb b) w w'):JS w' b t :=
 ⟨hs.heap (.inr (by omega)) h.1,hs.heap (.inr (by omega)) h.2.1,hs.heap (.inr (by omega)) h.2.2.1,hs.heap (.inr (by omega)) h.2.2.2⟩
theorem begins_any (s:ByteArray) (w:World) :
  Calls Tryz.prog 124 #[.string s] w fun e w'=>e = .returned (.func (.func 158) #[] #[.pointer (some ⟨w.heap.size,0,none⟩)]) /\ w' = w.alloc (.cells #[.string s] 9):=by
 go_enter Tryz.func124,Tryz.ntmps124
 go_wp2_with fail
 go_ret
 exact ⟨rfl,rfl⟩
theorem fst3_mrk {l:List UInt8} (h:l ≠ []):fst3 l = ((mrk l).1,((mrk l).2.1:Int),(mrk l).2.2):=by unfold fst3;rw [if_neg h]
theorem begins_iter (s:ByteArray) (pb lo:Nat) (w0:World) (hs:s.size <= maxLen) (hpb:Boxed w0 pb 9 (.string s)) (hlo:pb < lo) :
  Iter 158 #[.pointer (some ⟨pb,0,none⟩)] (fun x:Int=>#[Value.int .i64 x]) lo (lo + 4) (SetB pb lo) (fun pre=>pre <+: begL s.data.toList) (fun xs=>xs = begL s.data.toList) w0:=by
 intro l J Jx W hW hqW hJ hY h0;have hbox:=bx_q hpb hqW;have hsl:=size_list s;obtain ⟨L,hL⟩:∃ L,L = s.data.toList:=⟨_,rfl⟩;unfold maxLen at hs;refine callsIn_of_wp Tryz.func158 rfl trivial ?_ rfl;simp only [Tryz.ntmps158,List.size_toArray,List.length_cons,List.length_nil,Nat.reduceAdd,Nat.reduceSub,Array.replicate_succ,Array.replicate_zero,List.push_toArray,List.append_toArray,List.nil_append,List.cons_append];gi_wp2_with fail
 refine ⟨trivial,rfl,(callsIn_wide.2 (joiner_any W)).mono ?_⟩;rintro e w1 ⟨rfl,hjs,hq1,hz1⟩;rw [hW] at hjs hz1 |-;have hbox1:=bx_q hbox hq1;have h1:=hJ _ _ _ h0 (hq1.gap _ _);have HZ:=Hd hz1;have HS:=Hd hsl;have HW:=Hd hW;have hz1:lo + 4 <= w1.heap.size:=by omega
 clear hsl hW h0 hqW hbox hpb;gi_wp2_with fail
 gi_loopw [4] (fun v wr=>∃ (pos:Nat) (ms:List (Int × Nat × Bool)),v = .int .i64 pos /\ marks L = ms ++ marks (L.drop pos) /\ width ms = pos /\ pos <= s.size /\ JS wr lo (stMs ms) /\ J (begF st0 0 ms) wr /\ Boxed wr pb 9 (.string s) /\ lo + 4 <= wr.heap.size) (fun v _=>s.size - (intOf v).toNat)
 case atStart=>exact ⟨0,[],rfl,by simp,rfl,by omega,hjs,h1,hbox1,hz1⟩
 case round =>
  obtain ⟨pos,ms,rfl,hms,hwid,hpos,hjr,hJr,hbr,hzr⟩:=hrel;have cb:=hbr.cell;have fb:=hbr.frozen;by_cases hlt:pos < s.size
  ·have hne:=drop_ne hlt
   have hx:=extract_list s pos;have hF:=fun w=>first_any (s.extract pos s.size) w (by rw [ByteArray.size_extract];unfold maxLen;omega);rw [hx,fst3_mrk hne] at hF;have hma:=marks_at s pos hlt;have hmn:=mark_at_n s pos hlt;have hcc:=(vld_iff _).1 (dec_c _ hne);rw [show (((dec (s.data.toList.drop pos)).1:Nat):Int) = (mrk (s.data.toList.drop pos)).1 from rfl] at hcc;generalize mrk (s.data.toList.drop pos) = X at *;obtain ⟨c,n,ok⟩:=X;simp only at hF hma hmn hcc;rw [hL] at hms;rw [hma] at hms;have HF:=Hd hF;have HM:=Hd hms;have HWd:=Hd hwid;clear hF hms hwid hma hx hne;gi_wp2_with fail
   refine ⟨trivial,rfl,(callsIn_wide.2 (HF.out _)).mono ?_⟩;rintro e w2 ⟨rfl,hq2⟩;have hj2:=hjr.q hq2;have hJ2:=hJ _ _ _ hJr (hq2.gap _ _);have hb2:=bx_q hbr hq2;have hz2:=hq2.le;have cb2:=hb2.cell;have fb2:=hb2.frozen;have hjc:=fun w h=>joins_any c lo (stMs ms) w h;have hbs:=begF_snoc ms (c,n,ok);have hsm:=stMs_snoc ms (c,n,ok);have hws:=width_snoc ms (c,n,ok);have hpre:=begF_pre (ms ++ [(c,n,ok)]) (marks (s.data.toList.drop (pos + n)));rw [List.append_assoc,List.cons_append,List.nil_append,<- HM.out] at hpre;simp only at hbs hsm hws;obtain ⟨b,hb⟩:∃ b,b = jn (stMs ms) (cls c):=⟨_,rfl⟩;rw [<- hb] at hbs hjc;rw [HWd.out] at hbs hws;have HJC:=Hd hjc;have HBS:=Hd hbs;have HSM:=Hd hsm;have HWS:=Hd hws;have HPR:=Hd hpre;clear hjc hbs hsm hws hpre hb;gi_wp2_with fail
   refine ⟨trivial,rfl,(callsIn_wide.2 (HJC.out _ hj2)).mono ?_⟩;rintro e w3 ⟨rfl,hj3,hg3⟩;rw [<- HSM.out] at hj3;have hJ3:=hJ _ _ _ hJ2 hg3;have hb3:=bx_gap hb2 hg3 (.inl hlo);have hz3:lo + 4 <= w3.heap.size:=by have:=hg3.size;omega
   cases b
   ·obtain ⟨fn,tmps,assign,body,hy,hR⟩:=hY (begF st0 0 ms) pos w3 hJ3 hz3 (by
     have h:=HPR.out;rw [HBS.out] at h;exact h)
    gi_wp2_with fail
    refine ⟨rfl,hR.mono ?_⟩;rintro e w4 (⟨rfl,hJ4,hk4⟩ | ⟨rfl,hJx⟩)
    ·have hj4:=hj3.stand hk4
     have hb4:Boxed w4 pb 9 (.string s):=hk4.heap (.inl rfl) hb3;have hz4:=hk4.size;have hJ4':J (begF st0 0 (ms ++ [(c,n,ok)])) w4:=by rw [HBS.out];exact hJ4
     gi_wp2_with fail
     go_roundw
     case rel=>exact ⟨pos + n,ms ++ [(c,n,ok)],by go_num,by rw [hL,HM.out,List.append_assoc];rfl,HWS.out,hmn.2,hj4,hJ4',hb4,by omega⟩
     case measure=>simp [intOf];omega
    ·gi_wp2_with fail
     refine bodyPost_ret (results_none rfl _ _ _) rfl ?_;refine ⟨⟨_,rfl⟩,.inr ⟨_,?_,hJx⟩⟩;have h:=HPR.out;rw [HBS.out] at h;exact h
   ·have hJ3':J (begF st0 0 (ms ++ [(c,n,ok)])) w3:=by rw [HBS.out,if_pos rfl,List.append_nil];exact hJ3
    gi_wp2_with fail
    refine ⟨(fun _ h=>nomatch h),?_⟩;gi_wp2_with fail
    go_roundw
    case rel=>exact ⟨pos + n,ms ++ [(c,n,ok)],by go_num,by rw [hL,HM.out,List.append_assoc];rfl,HWS.out,hmn.2,hj3,hJ3',hb3,hz3⟩
    case measure=>simp [intOf];omega
  ·have hend:marks s.data.toList = ms:=by
    rw [hL] at hms;rw [marks_end s pos hlt,List.append_nil] at hms;exact hms
   have HE:=Hd hend;clear hend hms hwid;gi_wp2_with fail
   go_end0
   exact ⟨⟨_,rfl⟩,.inl ⟨_,by unfold begL;rw [HE.out],hJr⟩⟩
end
section
open Go.RowKit Um Cm Gm
theorem Q.joined {a w w':World} {b:Nat} (h:Q a w) (hg:Gap b (b + 4) w w') (hb:a.heap.size <= b):Q a w' :=
 Below.trans h ⟨hg.os,hg.tape,hg.output,hg.size,fun k hk=>hg.block k (Nat.lt_of_lt_of_le hk h.size) (.inl (by omega))⟩
end
section
open Go.RowKit
namespace Pr
open Pt Um
def PV (w:World) (v:Value) (X:Pat):Prop:=∃ a b c d,v = pv a b c d X.pr X.se X.mi X.mf X.xf /\ Pc.LstP w a X.pre /\ Pc.LstP w b X.suf /\ Pc.LstP w c X.npre /\ Pc.LstP w d X.nsuf
theorem PV.q {w w':World} {v:Value} {X:Pat} (h:PV w v X) (hq:Q w w'):PV w' v X:=by
 obtain ⟨a,b,c,d,h,h1,h2,h3,h4⟩:=h;exact ⟨a,b,c,d,h,h1.q hq,h2.q hq,h3.q hq,h4.q hq⟩
def PS (X:Pat):Prop:=X.pre.length < 1099511627776 /\ X.suf.length < 1099511627776 /\ X.npre.length < 1099511627776 /\ X.nsuf.length < 1099511627776
end Pr
end
section
open Go.RowKit
namespace Pr
open Pt Um
open Pt Um
def resF (a b c:ByteArray) (p:Pc.E):List UInt8:=if 0 < p.1 /\ p.1 < 4 then (if p.1 = 1 then a.data.toList else if p.1 = 2 then b.data.toList else c.data.toList) else p.2
def resL (a b c:ByteArray) (l:List Pc.E):List UInt8:=l.flatMap (resF a b c)
theorem resL_step (a b c:ByteArray) (l:List Pc.E) (k:Nat) (hk:k < l.length):resL a b c (l.take (k + 1)) = resL a b c (l.take k) ++ resF a b c (l.getD k (0,[])):=by
 unfold resL;rw [List.take_succ_eq_append_getElem hk,List.flatMap_append,List.flatMap_cons,List.flatMap_nil,List.append_nil,List.getD_eq_getElem?_getD,List.getElem?_eq_getElem hk];rfl
theorem resL_le (a b c:ByteArray) (l:List Pc.E) (k:Nat):(resL a b c (l.take k)).length <= (resL a b c l).length:=by
 have h:resL a b c l = resL a b c (l.take k) ++ resL a b c (l.drop k):=by
  unfold resL;rw [<- List.flatMap_append,List.take_append_drop]
 rw [h,List.length_append];omega
theorem txt_cell (w:World) (a b c:ByteArray) (z:ByteArray):let w':=w.alloc (.cells #[.string z,.string a,.string b,.string c] 9);w'.cell? ⟨w.heap.size,1,none⟩ = some (.string a) /\ w'.cell? ⟨w.heap.size,2,none⟩ = some (.string b) /\ w'.cell? ⟨w.heap.size,3,none⟩ = some (.string c):=by
 have hb:(w.alloc (.cells #[.string z,.string a,.string b,.string c] 9)).heap[w.heap.size]? = some (.cells #[.string z,.string a,.string b,.string c] 9):=heap_alloc_new _ _;simp only [World.cell?,hb];exact ⟨rfl,rfl,rfl⟩
theorem resolve_any (v:Value) (l:List Pc.E) (a b c:ByteArray) (w:World) (hv:Pc.LstP w v l) (hl:l.length <= 1000000) (hr:(resL a b c l).length <= 1000000000000) :
  Calls Tryz.prog 129 #[v,.string a,.string b,.string c] w fun e w'=>e = .returned (.string ⟨(resL a b c l).toArray⟩) /\ Q w w':=by
 obtain ⟨n,hn⟩:∃ n,l.length = n:=⟨_,rfl⟩;obtain ⟨ad,cp,rfl,hc1,hc2⟩:=hv.form0 hn;have HV:=Hd hv;have HN:=Hd hn;have HTB:=Hd (txt_cell w a b c ⟨#[]⟩);rw [hn] at hl;have HLE:=Hd (fun k=>Nat.le_trans (resL_le a b c l k) hr);have HEND:=Hd (show resL a b c (l.take n) = resL a b c l by rw [List.take_of_length_le (by omega)]);clear hv hn hr;obtain ⟨R,hR⟩:∃ R,R = resL a b c l:=⟨_,rfl⟩;rw [<- hR] at HEND |-;clear hR;go_enter Tryz.func129,Tryz.ntmps129
 go_wp2_with fail
 go_loopw [10,11] (fun s i wr=>∃ k:Nat,i = .int .i64 k /\ k <= n /\ s = .string ⟨(resL a b c (l.take k)).toArray⟩ /\ Hid (wr.cell? ⟨w.heap.size,1,none⟩ = some (.string a) /\ wr.cell? ⟨w.heap.size,2,none⟩ = some (.string b) /\ wr.cell? ⟨w.heap.size,3,none⟩ = some (.string c)) /\ Q w wr) (fun _ i _=>n - (intOf i).toNat)
 case atStart=>exact ⟨0,rfl,by omega,rfl,HTB,(Q.refl w).alloc _⟩
 case round =>
  obtain ⟨k,rfl,hkn,rfl,HT,hq⟩:=hrel;have HQ:=Hd hq;by_cases h1:k < n
  ·have h1i:(k:Int) < (n:Int):=by omega
   obtain ⟨g,off,cap,hvv,hg,_,_,c1,d1⟩:=HV.out.cellOf HN.out h1;cases hvv;have c2:=(World.cell?_of_block (w:=w) (hq.block hg)).trans c1;have d2:=(World.cell?_of_block (w:=w) (hq.block hg)).trans d1;have hst:=resL_step a b c l k (by rw [HN.out];exact h1);obtain ⟨p,hp⟩:∃ p,p = l.getD k (0,[]):=⟨_,rfl⟩;rw [<- hp] at c2 d2 hst;obtain ⟨x,t⟩:=p;simp only at c2 d2;obtain ⟨T,hT⟩:∃ T:ByteArray,T = ⟨(resF a b c (x,t)).toArray⟩:=⟨_,rfl⟩;have hap:=app_eq (resL a b c (l.take k)) (resF a b c (x,t));rw [<- hst,<- hT] at hap;have hle:=HLE.out (k + 1);have hle0:=HLE.out k;rw [hst,List.length_append] at hle;have s1:(⟨(resL a b c (l.take k)).toArray⟩:ByteArray).size <= 1000000000000:=by rw [<- size_list];exact hle0
   have s2:T.size <= 1000000000000:=by rw [hT,<- size_list];show (resF a b c (x,t)).length <= _;omega
   have hcs:(x = 1 /\ T = a) \/ (x = 2 /\ T = b) \/ (x = 3 /\ T = c) \/ (x <= 0 /\ T = ⟨t.toArray⟩) \/ (0 < x /\ 4 <= x /\ T = ⟨t.toArray⟩):=by
    unfold resF at hT;by_cases h:0 < x /\ x < 4
    ·rw [if_pos h] at hT
     rcases (show x = 1 \/ x = 2 \/ x = 3 from by omega) with rfl | rfl | rfl
     ·exact .inl ⟨rfl,by rw [hT];rfl⟩
     ·exact .inr (.inl ⟨rfl,by rw [hT];rfl⟩)
     ·exact .inr (.inr (.inl ⟨rfl,by rw [hT];rfl⟩))
    ·rw [if_neg h] at hT
     by_cases h0:x <= 0
     ·exact .inr (.inr (.inr (.inl ⟨h0,hT⟩)))
     ·exact .inr (.inr (.inr (.inr ⟨by omega,by omega,hT⟩)))
   generalize (⟨(resL a b c (l.take k)).toArray⟩:ByteArray) = S at *;have HAP:=Hd hap;clear c1 d1 hp hst hT hap hle hle0 hq;obtain ⟨q1,q2,q3⟩:=HT.out;rcases hcs with ⟨rfl,rfl⟩ | ⟨rfl,rfl⟩ | ⟨rfl,rfl⟩ | ⟨hx,hT⟩ | ⟨hx,hx4,hT⟩
   ·go_wp2_with fail
    exact ⟨⟨k + 1,by go_num,by omega,by rw [HAP.out],HT,HQ.out⟩,by simp [intOf];omega⟩
   ·go_wp2_with fail
    exact ⟨⟨k + 1,by go_num,by omega,by rw [HAP.out],HT,HQ.out⟩,by simp [intOf];omega⟩
   ·go_wp2_with fail
    exact ⟨⟨k + 1,by go_num,by omega,by rw [HAP.out],HT,HQ.out⟩,by simp [intOf];omega⟩
   ·have d3:wr.cell? ⟨g,off + k * 2 + 1,none⟩ = some (.string T):=by rw [hT];exact d2
    clear d2;have hx0:¬ 0 < x:=by omega
    clear hT q1 q2 q3;go_wp2_with fail
    exact ⟨⟨k + 1,by go_num,by omega,by rw [HAP.out],HT,HQ.out⟩,by simp [intOf];omega⟩
   ·have d3:wr.cell? ⟨g,off + k * 2 + 1,none⟩ = some (.string T):=by rw [hT];exact d2
    clear d2;have hx0:¬ x < 4:=by omega
    clear hT q1 q2 q3;go_wp2_with fail
    exact ⟨⟨k + 1,by go_num,by omega,by rw [HAP.out],HT,HQ.out⟩,by simp [intOf];omega⟩
  ·have hk:k = n:=by omega
   subst hk;have hno:¬ (k:Int) < (k:Int):=by omega
   rw [HEND.out];clear hq;go_wp2_with fail
   go_ret
   exact ⟨rfl,HQ.out⟩
end Pr
end
section
open Go.RowKit
namespace Pr
open Pt Um
theorem none_any (a b c d:Value) (p s i m x:Int) (l:List Pc.E) (w:World) (ha:Pc.LstP w a l) (hl:l.length <= 1000000) :
  Calls Tryz.prog 139 #[pv a b c d p s i m x] w fun e w'=>∃ u,e = .returned u /\ OwnB w' w.heap.size u ((3,[]) :: l) /\ Q w w':=by
 unfold pv;have hb0:PB (w.alloc (.cells #[a,b,c,d,.int .i64 p,.int .i64 s,.int .i64 i,.int .i64 m,.int .i64 x] 29)) w.heap.size a b c d p s i m x:=heap_alloc_new _ _;have hq0:Q w (w.alloc (.cells #[a,b,c,d,.int .i64 p,.int .i64 s,.int .i64 i,.int .i64 m,.int .i64 x] 29)):=(Q.refl w).alloc _;have hsz:(w.alloc (.cells #[a,b,c,d,.int .i64 p,.int .i64 s,.int .i64 i,.int .i64 m,.int .i64 x] 29)).heap.size = w.heap.size + 1:=Array.size_push _;obtain ⟨n,hn⟩:∃ n,l.length = n:=⟨_,rfl⟩;obtain ⟨aa,ac,rfl,ac1,ac2⟩:=ha.form0 hn;rw [hn] at hl;have HA:=Hd ha;have HB0:=Hd hb0;have HQ0:=Hd hq0;have HSZ:=Hd hsz;have HN:=Hd hn;clear ha hb0 hq0 hsz hn;go_enter Tryz.func139,Tryz.ntmps139
 go_wp2_with (at_builtin;refine Pc.push elB (Pc.OwnE.nil 173 _ (w.heap.size + 1)) rfl _ _ rfl 3 ⟨#[]⟩ (by rfl) (by rw [HSZ.out];rfl) (by decide) (Nat.le_of_eq HSZ.out.symm) ?_)
 intro v' w4 ho4 hg4 hat4;have hq4:=(Q.refl _).grown hg4 (fun j h=>nomatch h);have hb4:=HB0.out.q hq4;have HQ4:=Hd (HQ0.out.trans hq4);have HB4:=Hd hb4;have hs4:w.heap.size + 1 <= w4.heap.size:=hb4.lt;obtain ⟨va,vc,rfl,vc1,vc2⟩:=ho4.lst.form0 (n:=1) rfl;have HO4:=Hd ho4;obtain ⟨r0,-⟩:=hb4.cells;clear hb4 hq4 hg4 hat4 ho4;go_wp2_with (at_builtin;refine Pc.pushl elB HO4.out (HA.out.q HQ4.out) rfl _ _ rfl (by rfl) (by rfl) (by rw [HN.out];show 1 + n < _;omega) hs4 ?_)
 intro v5 w5 ho5 hg5 hat5;have hq5:=HQ4.out.grown hg5 (fun j h=>Nat.le_of_succ_le (HO4.out.lt j h).1);go_wp2_with fail
 go_ret
 exact ⟨_,rfl,ho5.mono (Nat.le_succ _),hq5⟩
end Pr
end
section
open Go.RowKit
namespace Pr
open Pt Um
def sgnOk (l:List (Int × Int)):Prop:=∀ x ∈ l,x.1 = 4 -> ∃ b:UInt8,encL x.2 = [b] /\ ((b.toNat:Nat):Int) = x.2
theorem encL_len (c:Int):(encL c).length <= 4:=by unfold encL;rw [size_list];exact encB_size c
def frm (l:List (Int × Int)):Nat:=(l.takeWhile fun x=>!isN x).length
def rst (l:List (Int × Int)):List (Int × Int):=l.dropWhile fun x=>!isN x
def mny (l:List (Int × Int)):Nat:=((rst l).takeWhile isN).length
theorem tw_holds {α:Type} {f:α -> Bool} {l:List α}:∀ x ∈ l.takeWhile f,f x = true:=by
 induction l with
 | nil=>intro x hx;simp at hx
 | cons y r ih =>
  intro x hx;rw [List.takeWhile_cons] at hx;cases hy:f y
  ·rw [hy] at hx;simp at hx
  ·rw [hy,if_pos rfl] at hx
   rcases List.mem_cons.1 hx with rfl | hx
   ·exact hy
   ·exact ih x hx
theorem tw_get {α:Type} {f:α -> Bool} {l:List α} {k:Nat} (h:k < (l.takeWhile f).length):∃ hk:k < l.length,f (l[k]'hk) = true:=by
 have h1:(l.takeWhile f).length <= l.length:=(List.takeWhile_prefix f).length_le;refine ⟨by omega,?_⟩;have h2:=tw_holds _ (List.getElem_mem h);have h3:(l.takeWhile f)[k] = l[k]'(by omega):=(List.takeWhile_prefix f).getElem h;rw [h3] at h2;exact h2
theorem tw_end {α:Type} {f:α -> Bool} {l:List α} (h:(l.takeWhile f).length < l.length):f (l[(l.takeWhile f).length]'h) = false:=by
 induction l with
 | nil=>simp at h
 | cons x r ih =>
  cases hx:f x
  ·simp [List.takeWhile_cons,hx]
  ·simp only [List.takeWhile_cons,hx,if_true,List.length_cons] at h |-
   have:=ih (by simpa using h);simpa using this
theorem tw_drop {α:Type} (f:α -> Bool) (l:List α):l.dropWhile f = l.drop (l.takeWhile f).length:=by
 induction l with
 | nil=>rfl
 | cons x r ih =>
  cases hx:f x
  ·simp [List.takeWhile_cons,List.dropWhile_cons,hx]
  ·simp [List.takeWhile_cons,List.dropWhile_cons,hx,ih]
theorem tw_take {α:Type} (f:α -> Bool) (l:List α):l.takeWhile f = l.take (l.takeWhile f).length:=by
 induction l with
 | nil=>rfl
 | cons x r ih =>
  cases hx:f x
  ·simp [List.takeWhile_cons,hx]
  ·simp only [List.takeWhile_cons,hx,if_true,List.length_cons,List.take_succ_cons]
   rw [<- ih]
theorem rst_eq (l:List (Int × Int)):rst l = l.drop (frm l):=tw_drop _ l
theorem frm_le (l:List (Int × Int)):frm l <= l.length:=(List.takeWhile_prefix _).length_le
theorem mny_le (l:List (Int × Int)):frm l + mny l <= l.length:=by
 have h1:mny l <= (rst l).length:=(List.takeWhile_prefix isN).length_le;rw [rst_eq,List.length_drop] at h1;have:=frm_le l;omega
theorem kind_at (l:List (Int × Int)) (k:Nat) (hk:k < l.length):((tkP l).getD k (0,[])).1 = (l[k]'hk).1 /\ ((tkP l).getD k (0,[])).2 = encL (l[k]'hk).2:=by
 unfold tkP;rw [List.getD_eq_getElem?_getD,List.getElem?_map,List.getElem?_eq_getElem hk];exact ⟨rfl,rfl⟩
theorem frm_lt {l:List (Int × Int)} {k:Nat} (h:k < frm l):∃ hk:k < l.length,(l[k]'hk).1 ≠ 4:=by
 obtain ⟨hk,h1⟩:=tw_get h;refine ⟨hk,?_⟩;simp only [isN,Bool.not_eq_true',beq_eq_false_iff_ne] at h1;exact h1
theorem frm_end {l:List (Int × Int)} (h:frm l < l.length):(l[frm l]'h).1 = 4:=by
 have:=tw_end (f:=fun x=>!isN x) (l:=l) h;simp only [isN,Bool.not_eq_false',beq_iff_eq] at this;exact this
theorem mny_lt {l:List (Int × Int)} {j:Nat} (h:j < mny l):∃ hk:frm l + j < l.length,(l[frm l + j]'hk).1 = 4:=by
 have h0:=mny_le l;obtain ⟨hk,h1⟩:=tw_get (l:=rst l) h;refine ⟨by omega,?_⟩;have e:(rst l)[j] = l[frm l + j]'(by omega):=by
  simp only [rst_eq,List.getElem_drop]
 rw [e] at h1;simpa [isN] using h1
theorem mny_end {l:List (Int × Int)} (h:frm l + mny l < l.length):(l[frm l + mny l]'h).1 ≠ 4:=by
 have hr:mny l < (rst l).length:=by rw [rst_eq,List.length_drop];omega
 have:=tw_end (f:=isN) (l:=rst l) hr;have e:(rst l)[((rst l).takeWhile isN).length]'hr = l[frm l + mny l]'h:=by
  simp only [rst_eq,List.getElem_drop,mny]
 rw [e] at this;simpa [isN] using this
theorem suf_eq (l:List (Int × Int)):(rst l).dropWhile isN = l.drop (frm l + mny l):=by
 unfold mny;rw [tw_drop isN,rst_eq,List.drop_drop]
theorem sgn_eq (l:List (Int × Int)):(rst l).takeWhile isN = (l.drop (frm l)).take (mny l):=by
 unfold mny;rw [rst_eq];exact tw_take isN _
theorem half_eq (l:List (Int × Int)):half l = if (l.drop (frm l + mny l)).any isN = true then none else (num (((l.drop (frm l)).take (mny l)).map (·.2))).map fun n=>⟨joinT [] (l.take (frm l)),joinT [] (l.drop (frm l + mny l)),n⟩:=by
 unfold half;have e1:l.dropWhile (fun x=>!isN x) = rst l:=rfl;simp only [e1,suf_eq,sgn_eq];rw [tw_take (fun x=>!isN x) l];rfl
theorem tkP_take (l:List (Int × Int)) (k:Nat):(tkP l).take k = tkP (l.take k):=by unfold tkP;rw [List.map_take]
theorem tkP_drop (l:List (Int × Int)) (k:Nat):(tkP l).drop k = tkP (l.drop k):=by unfold tkP;rw [List.map_drop]
theorem tkP_len (l:List (Int × Int)):(tkP l).length = l.length:=by unfold tkP;rw [List.length_map]
theorem tkP_txt (l:List (Int × Int)):∀ p ∈ tkP l,p.2.length <= 4:=by
 intro p hp;obtain ⟨x,_,rfl⟩:=List.mem_map.1 hp;exact encL_len x.2
def sgB (l:List (Int × Int)):List UInt8:=l.flatMap fun x=>encL x.2
theorem sgB_bys (l:List (Int × Int)) (h:∀ x ∈ l,x.1 = 4) (hk:sgnOk l):bys ⟨(sgB l).toArray⟩ = l.map (·.2):=by
 unfold bys sgB;show ((l.flatMap fun x=>encL x.2).map fun b=>((b.toNat:Nat):Int)) = _;induction l with
 | nil=>rfl
 | cons x r ih =>
  obtain ⟨b,h1,h2⟩:=hk x List.mem_cons_self (h x List.mem_cons_self);rw [List.flatMap_cons,h1];simp only [List.singleton_append,List.map_cons,h2];rw [ih (fun y hy=>h y (List.mem_cons_of_mem _ hy)) (fun y hy=>hk y (List.mem_cons_of_mem _ hy))]
theorem sgB_len (l:List (Int × Int)):(sgB l).length <= 4 * l.length:=by
 unfold sgB;induction l with
 | nil=>simp
 | cons x r ih=>rw [List.flatMap_cons,List.length_append,List.length_cons];have:=encL_len x.2;omega
theorem sgB_snoc (l:List (Int × Int)) (k:Nat) (hk:k < l.length):sgB (l.take (k + 1)) = sgB (l.take k) ++ encL (l[k]'hk).2:=by
 unfold sgB;rw [List.take_succ_eq_append_getElem hk,List.flatMap_append,List.flatMap_cons,List.flatMap_nil,List.append_nil]
def HalfIs (w':World) (B:Nat) (r:Option Hf) (e:Ending):Prop :=
 (r = none /\ ∃ a1 n1 c1 a2 n2 c2 p q i m x l,e = .returned (.tuple #[pv (.slice a1 n1 c1) (.slice a2 n2 c2) nilV nilV p q i m x,.bool false,.bool l])) \/
 ∃ h a b,r = some h /\ e = .returned (.tuple #[pv a b nilV nilV h.nm.pr h.nm.se h.nm.mi h.nm.mf h.nm.xf,.bool true,.bool h.nm.long]) /\ Pc.New w' B a h.pre /\ Pc.New w' B b h.suf
end Pr
end
section
open Go.RowKit
namespace Pg
open Pt Um
structure Hm where
 pa:Option Addr
 pc:Nat
 sa:Option Addr
 sc:Nat
 P:List Pc.E
 S:List Pc.E
 nb:Nb
def Hm.pv (h:Hm):Value:=.slice h.pa h.P.length h.pc
def Hm.sv (h:Hm):Value:=.slice h.sa h.S.length h.sc
def Hm.cells (h:Hm):List Value:=[h.pv,h.sv,.int .i64 h.nb.p,.int .i64 h.nb.s,.int .i64 h.nb.mi,.int .i64 h.nb.xi,.int .i64 h.nb.mf,.int .i64 h.nb.xf]
def Hm.ok (w:World) (B:Nat) (h:Hm):Prop:=Pc.New w B h.pv h.P /\ Pc.New w B h.sv h.S
theorem Hm.ok.q {w w':World} {B:Nat} {h:Hm} (k:h.ok w B) (hq:Q w w'):h.ok w' B:=⟨k.1.q hq,k.2.q hq⟩
def flatH (hs:List Hm):List Value:=hs.flatMap Hm.cells
theorem flatH_app (a b:List Hm):flatH (a ++ b) = flatH a ++ flatH b:=by simp [flatH]
theorem flatH_get (hs:List Hm) (i:Nat) (h:Hm) (hi:hs[i]? = some h) (j:Nat) (hj:j < 8):(flatH hs)[i * 8 + j]? = h.cells[j]?:=by
 induction hs generalizing i with
 | nil=>simp at hi
 | cons x r ih =>
  unfold flatH at *;rw [List.flatMap_cons];have hx:x.cells.length = 8:=rfl;cases i with
  | zero =>
   simp at hi;subst hi;rw [Nat.zero_mul,Nat.zero_add,List.getElem?_append_left (by rw [hx];exact hj)]
  | succ i =>
   rw [List.getElem?_append_right (by rw [hx];omega),hx,show (i + 1) * 8 + j - 8 = i * 8 + j by omega];exact ih i (by simpa using hi)
def OwnH (w:World) (B:Nat) (v:Value) (hs:List Hm):Prop:=w.ownsRow B 186 8 v hs.length (flatH hs)
theorem OwnH.nil (w:World) (B:Nat):OwnH w B (.slice none 0 0) []:=World.ownsRow_nil w B 186 8
theorem OwnH.same {w w':World} {B:Nat} {v:Value} {hs:List Hm} (h:OwnH w B v hs) (k:∀ g,v.ownBlock = some g -> w'.heap[g]? = w.heap[g]?):OwnH w' B v hs:=by
 obtain ⟨h1,h2⟩:=h;refine ⟨h1,?_⟩;rcases h2 with h2 | ⟨g,cap,cur,hv,hg,hh,r⟩
 ·exact .inl h2
 ·exact .inr ⟨g,cap,cur,hv,hg,by rw [k g (by rw [hv];rfl)];exact hh,r⟩
theorem OwnH.lt {w:World} {B:Nat} {v:Value} {hs:List Hm} (h:OwnH w B v hs):∀ g,v.ownBlock = some g -> B <= g /\ g < w.heap.size:=World.ownsRow.lt h
theorem OwnH.q {w w':World} {B:Nat} {v:Value} {hs:List Hm} (h:OwnH w B v hs) (hq:Q w w'):OwnH w' B v hs:=h.same fun g hg=>hq.block (h.lt g hg).2
theorem OwnH.shape {w:World} {B:Nat} {v:Value} {hs:List Hm} {n:Nat} (h:OwnH w B v hs) (hn:hs.length = n):∃ a c,v = .slice a n c /\ n <= c /\ c <= maxLen:=by
 subst hn;rcases h.2 with ⟨hv,hn⟩ | ⟨g,cap,cur,hv,_,hh,hnc,hcm,_⟩
 ·have:hs = []:=List.eq_nil_of_length_eq_zero hn
  subst this;exact ⟨none,0,hv,by simp,by unfold maxLen;omega⟩
 ·exact ⟨_,cap,hv,hnc,hcm⟩
theorem OwnH.cellOf {w:World} {B:Nat} {v:Value} {hs:List Hm} {n i:Nat} {h:Hm} (k:OwnH w B v hs) (hn:hs.length = n) (hi:hs[i]? = some h) :
  ∃ g cap,v = .slice (some ⟨g,0,none⟩) n cap /\ B <= g /\ g < w.heap.size /\ n <= cap /\ cap <= maxLen /\ ∀ j u,h.cells[j]? = some u -> w.cell? ⟨g,i * 8 + j,none⟩ = some u:=by
 subst hn;have hil:=(List.getElem?_eq_some_iff.1 hi).1;rcases k.2 with ⟨hv,hn⟩ | ⟨g,cap,cur,hv,hB,hh,hnc,hcm,hcs,ht⟩
 ·omega
 ·refine ⟨g,cap,hv,hB,(Array.getElem?_eq_some_iff.1 hh).1,hnc,hcm,fun j u hj=>?_⟩
  have hj8:j < 8:=(List.getElem?_eq_some_iff.1 hj).1;rw [cell_of_row w g (i * 8 + j) cur 186 (0,0) hh];have h1:=congrArg (fun x=>x[i * 8 + j]?) ht;rw [List.getElem?_take,if_pos (by omega),flatH_get hs i h hi j hj8,hj] at h1;rw [<- Array.getElem?_toList,h1]
theorem infoH3:(Tryz.prog.info? 186).map (fun i=>(i.zero,i.size,i.bytes)) = some (some (.agg #[.slice none 0 0,.slice none 0 0,.int .i64 0,.int .i64 0,.int .i64 0,.int .i64 0,.int .i64 0,.int .i64 0]),8,96):=by kernel_rfl
theorem pushH {w:World} {B:Nat} {v:Value} {hs:List Hm} (hown:OwnH w B v hs) {ops:Array Oper} {rest:List Oper} {o:Oper} {a:Act} {R:Exit -> Act -> World -> Prop} (hgd:o.guard = none) (s x:Operand)
  (ho:o.op = .call { callee:=.builtin .append,args:=#[s,x],argTypes:=#[182,182] })
  (h:Hm) (hsv:a.eval s = v) (hx:a.eval x = .slice (some ⟨w.heap.size,0,none⟩) 1 1) (hlen:hs.length < 1000000) (hB:B <= w.heap.size)
  (k:∀ v' w',OwnH w' B v' (hs ++ [h]) -> w.grownBy w' v.ownBlock -> (v'.ownBlock = v.ownBlock \/ v'.ownBlock = some (w.heap.size + 1)) -> wpList Tryz.prog ops R rest (a.put o.dst v') w') :
  wpList Tryz.prog ops R (o :: rest) a (w.alloc (.cells h.cells.toArray 186)):=by
 obtain ⟨i0,hi,hz0,hz1,hz2⟩:=info_parts infoH3;refine wpList_append_own_at _ hgd s x 182 ho B 186 i0 _ 8 96 Tryz.underlying182 hi hz0 hz1 hz2 rfl (by decide) v hs.length _ hsv (World.ownsRow.alloc hown _)
  ⟨w.heap.size,0,none⟩ 1 1 h.cells hx rfl ?_ ?_ ?_ ?_ ?_ ?_
 ·intro j u hj
  have hadd:(⟨w.heap.size,0,none⟩:Addr).add j = ⟨w.heap.size,j,none⟩:=by unfold Addr.add;split <;> simp_all
  rw [hadd,World.cell?_alloc_at _ _ _ _ rfl];simpa using hj
 ·intro u hu
  unfold Hm.cells at hu;simp at hu;rcases hu with rfl | rfl | rfl | rfl | rfl | rfl | rfl | rfl <;> rfl
 ·unfold maxLen;omega
 ·omega
 ·simp;omega
 ·intro v' w' hown' hg _ hat
  refine k v' w' ?_ ?_ ?_
  ·unfold OwnH
   rw [List.length_append,flatH_app];have:flatH [h] = h.cells:=by simp [flatH]
   rw [this];exact hown'
  ·exact (World.grownBy_alloc w _ _).trans hg
  ·simpa using hat
theorem New.grown {w w':World} {B:Nat} {v:Value} {l:List Pc.E} {row:Option Nat} (h:Pc.New w B v l) (hg:w.grownBy w' row) (hne:∀ a n c,v = .slice (some a) n c -> n ≠ 0 -> row ≠ some a.block):Pc.New w' B v l:=by
 refine ⟨?_,h.2⟩;rcases h.1 with hn | ⟨g,off,cap,rfl,hl,h1,h2,hc⟩
 ·exact .inl hn
 ·by_cases h0:l.length = 0
  ·have:l = []:=List.eq_nil_of_length_eq_zero h0
   subst this;exact .inl ⟨rfl,_,_,rfl,h2,fun h=>nomatch h⟩
  ·have hb:=hg.block g hl (fun e=>hne _ _ _ rfl h0 e.symm)
   exact .inr ⟨g,off,cap,rfl,Nat.lt_of_lt_of_le hl hg.size,h1,h2,fun j hj=>⟨(World.cell?_of_block (w:=w) hb).trans (hc j hj).1,(World.cell?_of_block (w:=w) hb).trans (hc j hj).2⟩⟩
def Hm.far (h:Hm) (v:Value):Prop:=(∀ a n c,h.pv = .slice (some a) n c -> n ≠ 0 -> v.ownBlock ≠ some a.block) /\ (∀ a n c,h.sv = .slice (some a) n c -> n ≠ 0 -> v.ownBlock ≠ some a.block)
theorem Hm.ok.grown {w w':World} {B:Nat} {h:Hm} {v:Value} (k:h.ok w B) (hg:w.grownBy w' v.ownBlock) (hf:h.far v):h.ok w' B:=⟨New.grown k.1 hg hf.1,New.grown k.2 hg hf.2⟩
theorem New.lt {w:World} {B:Nat} {v:Value} {l:List Pc.E} (h:Pc.New w B v l):∀ a n c,v = .slice (some a) n c -> n ≠ 0 -> a.block < w.heap.size:=by
 intro a n c hv hn;rcases h.1 with ⟨_,_,_,hv2,_⟩ | ⟨g,off,cap,hv2,hl,_⟩
 ·rw [hv2] at hv;cases hv;exact absurd rfl hn
 ·rw [hv2] at hv;cases hv;exact hl
theorem Hm.far.push {w:World} {B:Nat} {h:Hm} {v v':Value} (k:h.ok w B) (hf:h.far v) (hat:v'.ownBlock = v.ownBlock \/ v'.ownBlock = some (w.heap.size + 1)):h.far v':=by
 refine ⟨fun a n c e hn e2=>?_,fun a n c e hn e2=>?_⟩
 ·rcases hat with h1 | h1
  ·exact hf.1 a n c e hn (h1 ▸ e2)
  ·have:=New.lt k.1 a n c e hn
   rw [h1] at e2;have:=Option.some.inj e2;omega
 ·rcases hat with h1 | h1
  ·exact hf.2 a n c e hn (h1 ▸ e2)
  ·have:=New.lt k.2 a n c e hn
   rw [h1] at e2;have:=Option.some.inj e2;omega
theorem Hm.far.new {w w':World} {B:Nat} {h:Hm} {v:Value} {hs:List Hm} (ho:OwnH w B v hs) (k:h.ok w' w.heap.size):h.far v :=
 ⟨fun a n c e hn e2=>by have:=(ho.lt _ e2).2;have:=k.1.2 a n c e hn;omega,fun a n c e hn e2=>by have:=(ho.lt _ e2).2;have:=k.2.2 a n c e hn;omega⟩
end Pg
end
end Go.Proofs.YteggfkbnnmpcjaaGreatDoor
