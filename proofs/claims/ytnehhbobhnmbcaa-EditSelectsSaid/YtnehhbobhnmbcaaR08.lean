/- What package digit's settle comes to, which writes in place, by a walk through it. (and more) -/
import Derived.Test.YtnehhbobhnmbcaaR05
set_option linter.all false
set_option maxRecDepth 100000
set_option maxHeartbeats 8000000
namespace Go.Proofs.Ytnehhbobhnmbcaa
section
open Go.RowKit
namespace Dw
def New (B:Nat) (u:Value):Prop:=∀ (ad:Addr) (n c:Nat),u = .slice (some ad) n c -> n ≠ 0 -> B <= ad.block
theorem New.here {B:Nat} {g:Nat} (h:B <= g) (o n c:Nat):New B (.slice (some ⟨g,o,none⟩) n c):=fun ad m d e _=>by cases e;exact h
theorem New.nil (B:Nat) (a:Option Addr) (c:Nat):New B (.slice a 0 c):=fun ad m d e hm=>by cases e;exact absurd rfl hm
theorem New.mono {B C:Nat} {u:Value} (h:New B u) (hC:C <= B):New C u:=fun ad n c e hn=>Nat.le_trans hC (h ad n c e hn)
theorem New.own {w:World} {B:Nat} {v:Value} {zs:List Int} (h:Own w B v zs):New B v:=by
 intro ad n c e hn;rcases h.2 with ⟨hv,_⟩ | ⟨g,cap,cur,hv,hg,_⟩
 ·rw [hv] at e;cases e
 ·rw [hv] at e;cases e;exact hg
theorem New.ne {B b:Nat} {u:Value} (h:New B u) (hb:b < B):∀ (a:Addr) (n c:Nat),u = .slice (some a) n c -> n ≠ 0 -> a.block ≠ b:=fun a n c e hn=>by
 have:=h a n c e hn;omega
end Dw
end
section
open Go.RowKit
theorem ld_row {o:Oper} {a:Act} {T:TypeId} {x:Operand} {b:Nat} {l:List Value} {uz:World} {fs:_} (ho:o.op = .load T x) (hx:a.eval x = .pointer (some ⟨b,0,none⟩))
  (hB:Bk uz b T l) (hu:Try.prog.underlying T = some (.struct fs)) (hi:(Try.prog.info? T).map (·.size) = some l.length) :
  (execOp a.eval o).run Try.prog uz = .ok (.value (.agg l.toArray)) uz:=by
 have h:=run_loadVar_row uz b T T l.toArray (0,0) _ hB hu rfl (by simpa using hi);unfold execOp;simp only [ho,hx,Instr.loadAt,Instr.sureAddr,Sem.run_bind,Sem.run_pure,Result.andThen_ok,h]
end
section
namespace Ed
open Tm Dm
structure S where
 d:T
 c:Int
 a:Int
structure L where
 i:Int
 f:Int
 g:Bool
def S0:S:=⟨T0,0,0⟩
def len (s:S):Int:=(ats s.d).length
def mayS (s:S):Bool:=may s.d && decide (0 <= s.c /\ s.c <= len s) && decide (0 <= s.a /\ s.a <= len s)
def fr (s:S):Int:=min s.c s.a
def bk (s:S):Int:=max s.c s.a
def fits (d:T) (l:L):Bool:=decide ((d.i.length:Int) <= l.i) && decide ((d.f.length:Int) <= l.f)
theorem mayS_iff (s:S):mayS s = true ↔ may s.d = true /\ (0 <= s.c /\ s.c <= len s) /\ (0 <= s.a /\ s.a <= len s):=by
 unfold mayS;simp only [Bool.and_eq_true,decide_eq_true_eq,and_assoc]
theorem span_bd {s:S} (h:mayS s = true):0 <= fr s /\ fr s <= bk s /\ bk s <= len s:=by
 obtain ⟨_,h1,h2⟩:=(mayS_iff s).1 h;unfold fr bk;omega
def ins (s:S) (l:L) (A:List Int):S × Int :=
 if mayS s = true then
  if spC s.d (fr s) (bk s) A = 0 then
   if fits (spR s.d (fr s) (bk s) A) l = true then (⟨spR s.d (fr s) (bk s) A,fr s + A.length,fr s + A.length⟩,0) else (S0,4)
  else (S0,spC s.d (fr s) (bk s) A)
 else (S0,1)
def allSel (s:S):Bool:=decide (0 < len s /\ fr s = 0 /\ bk s = len s)
def put (s:S) (l:L) (g:Bool) (A:List Int):S × Int :=
 if (ins s l A).2 = 0 then
  if g = true /\ (l.g = false \/ 0 < fr s) then (S0,5)
  else (⟨⟨g || (s.d.g && !allSel s),(ins s l A).1.d.i,(ins s l A).1.d.s,(ins s l A).1.d.f⟩,(ins s l A).1.c,(ins s l A).1.a⟩,0)
 else (S0,(ins s l A).2)
def wordR (l:List Int) (k:Nat):Nat:=if (l.drop k).head? = some 10 then k + 1 else k + (ahd (l.drop k)).length
def wordL (l:List Int) (k:Nat):Nat:=if (l.take k).getLast? = some 10 then k - 1 else k - (ahd (l.take k).reverse).length
theorem wordR_bd (l:List Int) (k:Nat) (hk:k <= l.length):k <= wordR l k /\ wordR l k <= l.length:=by
 unfold wordR;split
 ·rename_i h
  have hne:l.drop k ≠ []:=by intro e;rw [e] at h;cases h
  have:0 < (l.drop k).length:=List.length_pos_iff.2 hne;rw [List.length_drop] at this;omega
 ·have:=ahd_le (l.drop k)
  rw [List.length_drop] at this;omega
theorem wordL_bd (l:List Int) (k:Nat) (hk:k <= l.length):wordL l k <= k:=by
 unfold wordL;split <;> omega
def way (s:S) (w:Int):Int :=
 if w = 0 then max (s.c - 1) 0 else if w = 1 then min (s.c + 1) (len s) else if w = 2 then wordL (ats s.d) s.c.toNat
 else if w = 3 then wordR (ats s.d) s.c.toNat else if w = 4 then 0 else len s
theorem way_bd {s:S} (h:mayS s = true) (w:Int):0 <= way s w /\ way s w <= len s:=by
 obtain ⟨_,h1,_⟩:=(mayS_iff s).1 h;have hl:len s = (ats s.d).length:=rfl;have hr:=wordR_bd (ats s.d) s.c.toNat (by omega);have hw:=wordL_bd (ats s.d) s.c.toNat (by omega);unfold way;split
 ·omega
 ·split
  ·omega
  ·split
   ·omega
   ·split
    ·omega
    ·split <;> omega
def tkF (s:S) (w:Int):Int:=if w = 6 then 0 else if fr s = bk s then min s.c (way s w) else fr s
def tkB (s:S) (w:Int):Int:=if w = 6 then len s else if fr s = bk s then max s.c (way s w) else bk s
def tkG (s:S) (w:Int):Bool:=if w = 6 then false else s.d.g
theorem tk_bd {s:S} (h:mayS s = true) (w:Int):0 <= tkF s w /\ tkF s w <= tkB s w /\ tkB s w <= len s:=by
 have h1:=span_bd h;have h2:=way_bd h w;obtain ⟨_,h3,_⟩:=(mayS_iff s).1 h;unfold tkF tkB;split
 ·omega
 ·split <;> omega
def ers (s:S) (l:L) (w:Int):S × Int :=
 if mayS s = true /\ 0 <= w /\ w <= 6 then
  if tkF s w = tkB s w /\ tkG s w = s.d.g then (S0,7)
  else if fits (spR s.d (tkF s w) (tkB s w) []) l = true then
   (⟨⟨tkG s w,(spR s.d (tkF s w) (tkB s w) []).i,(spR s.d (tkF s w) (tkB s w) []).s,(spR s.d (tkF s w) (tkB s w) []).f⟩,tkF s w,tkF s w⟩,0)
  else (S0,4)
 else (S0,1)
def movT (s:S) (h:Int) (k:Bool):Int:=if k = false /\ ¬ s.c = s.a /\ h = 0 then fr s else if k = false /\ ¬ s.c = s.a /\ h = 1 then bk s else way s h
def mov (s:S) (h:Int) (k:Bool):S × Int:=if mayS s = true /\ 0 <= h /\ h <= 5 then (⟨s.d,movT s h k,if k = true then s.a else movT s h k⟩,0) else (S0,1)
def sel (s:S) (a c:Int):S × Int:=if mayS s = true then (if mayS ⟨s.d,c,a⟩ = true then (⟨s.d,c,a⟩,0) else (S0,3)) else (S0,1)
def tog (s:S) (l:L):S × Int:=if mayS s = true then (if l.g = true then (⟨⟨!s.d.g,s.d.i,s.d.s,s.d.f⟩,s.c,s.a⟩,0) else (S0,5)) else (S0,1)
/-! ### what follows -/
theorem spl_lenE (d:T) (i j:Nat) (A:List Int) (hi:i <= j) (hj:j <= (ats d).length):(spl d i j A).length = i + A.length + ((ats d).length - j):=by
 unfold spl;rw [List.length_append,List.length_append,List.length_take,List.length_drop];simp only [Int.toNat_natCast];omega
theorem spR_ok {d:T} {i j:Int} {A:List Int} (h:spC d i j A = 0):may d = true /\ okA A = true /\ 0 <= i /\ i <= j /\ j <= ((ats d).length:Int) /\ may (spR d i j A) = true /\ spR d i j A = ofD d.g (spl d i j A) /\
  ((ats (spR d i j A)).length:Int) = i + A.length + ((ats d).length - j):=by
 by_cases h1:(may d && okA A) = true
 ·by_cases h2:i < 0 \/ j < i \/ ((ats d).length:Int) < j
  ·rw [(spC_far h1 h2).1] at h;cases h
  ·obtain ⟨h3,h4⟩:=spC_in h1 h2
   rw [h3] at h;have h5:spR d i j A = ofD d.g (spl d i j A):=by
    unfold spR;rw [if_pos (by rw [h3];exact h)]
   have hh:okA (spl d i j A) = true /\ has (bhd (spl d i j A)) = false:=by
    unfold ofC at h;by_cases ho:okA (spl d i j A) = true
    ·rw [if_pos ho] at h
     refine ⟨ho,?_⟩;cases hb:has (bhd (spl d i j A)) with
     | false=>rfl
     | true=>rw [if_pos hb] at h;cases h
    ·rw [if_neg ho] at h;cases h
   have hb:=(Bool.and_eq_true _ _).mp h1;refine ⟨hb.1,hb.2,by omega,by omega,by omega,by rw [h5];exact may_of _ _ hh.1 hh.2,h5,?_⟩;rw [h5,ats_of];have e:=spl_lenE d i.toNat j.toNat A (by omega) (by omega);rw [show ((i.toNat:Nat):Int) = i by omega,show ((j.toNat:Nat):Int) = j by omega] at e;rw [e];omega
 ·rw [(spC_bad (by simpa using h1)).1] at h;cases h
theorem cnt_app (a b:List Int):cnt (a ++ b) = cnt a + cnt b:=by unfold cnt;rw [List.filter_append,List.length_append]
theorem one_cut (l:List Int) (h:has (bhd l) = false) (i j:Nat) (hi:i <= j):has (bhd (l.take i ++ l.drop j)) = false:=by
 have hc:cnt (l.take i ++ l.drop j) <= cnt l:=by
  have e:=cnt_app (l.take i) (l.drop j);have e2:cnt l = cnt (l.take j) + cnt (l.drop j):=by rw [<- cnt_app,List.take_append_drop]
  have e3:cnt (l.take i) <= cnt (l.take j):=by
   have:l.take j = l.take i ++ (l.take j).drop i:=by
    rw [show l.take i = (l.take j).take i by rw [List.take_take,Nat.min_eq_left hi],List.take_append_drop]
   rw [this,cnt_app];omega
  omega
 have h1:¬ 1 < cnt l:=fun k=>by rw [(cnt_two l).1 k] at h;cases h
 cases hb:has (bhd (l.take i ++ l.drop j)) with
 | false=>rfl
 | true=>exact absurd ((cnt_two _).2 hb) (by omega)
theorem okA_sub {l:List Int} (h:okA l = true) (i j:Nat):okA (l.take i ++ l.drop j) = true:=by
 rw [okA_iff] at h |-;intro x hx;rcases List.mem_append.1 hx with hx | hx
 ·exact h x (List.mem_of_mem_take hx)
 ·exact h x (List.mem_of_mem_drop hx)
theorem spC_nil {d:T} (h:may d = true) {i j:Int} (h1:0 <= i) (h2:i <= j) (h3:j <= ((ats d).length:Int)):spC d i j [] = 0:=by
 have hk:(may d && okA []) = true:=by rw [h];rfl
 rw [(spC_in hk (by omega)).1];have e:spl d i j [] = (ats d).take i.toNat ++ (ats d).drop j.toNat:=by unfold spl;rw [List.append_nil]
 rw [e];exact ofC_ok (okA_sub (okA_ats h) _ _) (one_cut _ (of_ats h).2 _ _ (by omega))
theorem ins_may {s:S} {l:L} {A:List Int} (h:(ins s l A).2 = 0):mayS s = true /\ spC s.d (fr s) (bk s) A = 0 /\ (ins s l A).1 = ⟨spR s.d (fr s) (bk s) A,fr s + A.length,fr s + A.length⟩ /\ fits (ins s l A).1.d l = true /\ mayS (ins s l A).1 = true:=by
 unfold ins at h |-;by_cases h1:mayS s = true
 ·rw [if_pos h1] at h |-
  by_cases h2:spC s.d (fr s) (bk s) A = 0
  ·rw [if_pos h2] at h |-
   by_cases h3:fits (spR s.d (fr s) (bk s) A) l = true
   ·rw [if_pos h3] at h |-
    obtain ⟨_,_,k1,k2,k3,k4,_,k5⟩:=spR_ok h2;refine ⟨h1,h2,rfl,h3,(mayS_iff _).2 ⟨k4,?_,?_⟩⟩
    ·show 0 <= fr s + A.length /\ fr s + A.length <= len ⟨spR s.d (fr s) (bk s) A,fr s + A.length,fr s + A.length⟩
     unfold len;dsimp only;omega
    ·show 0 <= fr s + A.length /\ fr s + A.length <= len ⟨spR s.d (fr s) (bk s) A,fr s + A.length,fr s + A.length⟩
     unfold len;dsimp only;omega
   ·rw [if_neg h3] at h;cases h
  ·rw [if_neg h2] at h;exact absurd h h2
 ·rw [if_neg h1] at h;cases h
theorem may_sg {d:T} (h:may d = true) (g:Bool):may ⟨g,d.i,d.s,d.f⟩ = true:=h
theorem ats_sg (d:T) (g:Bool):ats ⟨g,d.i,d.s,d.f⟩ = ats d:=rfl
theorem ers_may {s:S} {l:L} {w:Int} (h:(ers s l w).2 = 0):mayS s = true /\ fits (ers s l w).1.d l = true /\ mayS (ers s l w).1 = true:=by
 unfold ers at h |-;by_cases h1:mayS s = true /\ 0 <= w /\ w <= 6
 ·rw [if_pos h1] at h |-
  by_cases h2:tkF s w = tkB s w /\ tkG s w = s.d.g
  ·rw [if_pos h2] at h;cases h
  ·rw [if_neg h2] at h |-
   by_cases h3:fits (spR s.d (tkF s w) (tkB s w) []) l = true
   ·rw [if_pos h3]
    obtain ⟨b1,b2,b3⟩:=tk_bd h1.1 w;have h0:=spC_nil ((mayS_iff s).1 h1.1).1 b1 b2 b3;obtain ⟨_,_,_,_,_,k4,_,k5⟩:=spR_ok h0;refine ⟨h1.1,h3,(mayS_iff _).2 ⟨may_sg k4 _,?_,?_⟩⟩
    ·unfold len at b3 |-
     dsimp only;rw [ats_sg,k5];simp only [List.length_nil];omega
    ·unfold len at b3 |-
     dsimp only;rw [ats_sg,k5];simp only [List.length_nil];omega
   ·rw [if_neg h3] at h;cases h
 ·rw [if_neg h1] at h;cases h
theorem movT_bd {s:S} (h:mayS s = true) (m:Int) (k:Bool):0 <= movT s m k /\ movT s m k <= len s:=by
 have h1:=span_bd h;have h2:=way_bd h m;unfold movT;split
 ·omega
 ·split <;> omega
theorem mov_may {s:S} {m:Int} {k:Bool} (h:(mov s m k).2 = 0):mayS s = true /\ (mov s m k).1.d = s.d /\ mayS (mov s m k).1 = true:=by
 unfold mov at h |-;by_cases h1:mayS s = true /\ 0 <= m /\ m <= 5
 ·rw [if_pos h1]
  have hb:=movT_bd h1.1 m k;obtain ⟨a1,_,a3⟩:=(mayS_iff s).1 h1.1;refine ⟨h1.1,rfl,(mayS_iff _).2 ⟨a1,hb,?_⟩⟩;show 0 <= (if k = true then s.a else movT s m k) /\ (if k = true then s.a else movT s m k) <= len s
  split
  ·exact a3
  ·exact hb
 ·rw [if_neg h1] at h;cases h
end Ed
end
section
open Go.RowKit
namespace Dw
def okA (ls:List Sl):Bool:=ls.all fun s=>Dm.okB s.zs
theorem okA_bad (ls:List Sl) (k:Nat) (s:Sl) (h:ls[k]? = some s) (hb:Dm.okB s.zs = false):okA (ls.drop k) = false:=by
 have hk:=(List.getElem?_eq_some_iff.1 h).1;rw [List.getElem?_eq_getElem hk] at h;rw [List.drop_eq_getElem_cons hk,Option.some.inj h];simp [okA,hb]
theorem okA_on (ls:List Sl) (k:Nat) (s:Sl) (h:ls[k]? = some s) (hb:Dm.okB s.zs = true):okA (ls.drop k) = okA (ls.drop (k + 1)):=by
 have hk:=(List.getElem?_eq_some_iff.1 h).1;rw [List.getElem?_eq_getElem hk] at h;rw [List.drop_eq_getElem_cons hk,Option.some.inj h];simp [okA,hb]
theorem two_ll {w:World} {va vb:Value} {xs ys:List Int} (ha:Lst w va xs) (hb:Lst w vb ys) :
  ∃ s t:Sl,va = s.v /\ vb = t.v /\ s.zs = xs /\ t.zs = ys /\ LL (w.alloc (.cells #[va,vb] 22)) (.slice (some ⟨w.heap.size,0,none⟩) 2 2) [s,t]:=by
 obtain ⟨s,rfl,rfl,hs⟩:=ha.sl;obtain ⟨t,rfl,rfl,ht⟩:=hb.sl;refine ⟨s,t,rfl,rfl,rfl,rfl,GLst.made Sl.v 22 w [s,t] 2 rfl (by unfold maxLen;omega),?_⟩;intro u hu;have hq:Q w (w.alloc (.cells #[s.v,t.v] 22)):=(Q.refl w).alloc _;rcases List.mem_cons.1 hu with rfl | hu
 ·exact hs.q hq
 ·rcases List.mem_cons.1 hu with rfl | hu
  ·exact ht.q hq
  ·cases hu
end Dw
end
end Go.Proofs.Ytnehhbobhnmbcaa
