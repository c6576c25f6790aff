/- What package digit's settle comes to, which writes in place, by a walk through it. (and more) -/
import Derived.Test.YteggfkbnnmpcjaaGreatDoorR03
import Derived.Deep.SlicePairs
import Derived.Laws.Tables
import Derived.Deep.AppendLies
set_option linter.all false
set_option maxRecDepth 100000
set_option maxHeartbeats 8000000
namespace Go.Proofs.YteggfkbnnmpcjaaGreatDoor
section
open Go.RowKit
namespace Dw
def New (B:Nat) (u:Value):Prop:=∀ (ad:Addr) (n c:Nat),u = .slice (some ad) n c -> n ≠ 0 -> B <= ad.block
theorem New.nil (B:Nat) (a:Option Addr) (c:Nat):New B (.slice a 0 c):=fun ad m d e hm=>by cases e;exact absurd rfl hm
theorem New.mono {B C:Nat} {u:Value} (h:New B u) (hC:C <= B):New C u:=fun ad n c e hn=>Nat.le_trans hC (h ad n c e hn)
theorem New.own {w:World} {B:Nat} {v:Value} {zs:List Int} (h:Own w B v zs):New B v:=by
 intro ad n c e hn;rcases h.2 with ⟨hv,_⟩ | ⟨g,cap,cur,hv,hg,_⟩
 ·rw [hv] at e;cases e
 ·rw [hv] at e;cases e;exact hg
theorem New.ne {B b:Nat} {u:Value} (h:New B u) (hb:b < B):∀ (a:Addr) (n c:Nat),u = .slice (some a) n c -> n ≠ 0 -> a.block ≠ b:=fun a n c e hn=>by
 have:=h a n c e hn;omega
end Dw
end
section
open Go.ChangeShapes Go.WideShapes Go.RowKit Go.Deep
namespace FrG
section
variable {H:Type} {enc:TypeId × Value -> H} {P:Program} {w:World} {base:Nat} {spare:Nat -> Bool} {held:Bool}
theorem open_fields {r:Reach} {b0:Nat} {t:TypeId} {fs:Array Field} {v:Value} {d:DataW H} {p:List MemPlace} (hs:P.underlying t = some (.struct fs)) (hone:oneCellFields P fs = true) (hC:P.cellsOf t = fs.size)
  (hv:Value.okWide P w r b0 t v) (h:DataW.Trod enc P w base spare held t v d p) :
  ∃ cs:Array Value,v = .agg cs /\ cs.size = fs.size /\ ∀ (i:Nat) (f:Field) (c:Value),fs[i]? = some f -> cs[i]? = some c -> ∃ n y,DataW.trod enc P w base spare held n f.type ([c]:List Value) = some y:=by
 obtain ⟨cs,rfl,hsz⟩:=okWide_struct hs hv;obtain ⟨fuel,hf⟩:=h;obtain ⟨xs,n,_,_,_,hxl,hx⟩:=DataW.trod_struct hs hf;refine ⟨cs,rfl,hsz.trans hC,fun i f c hfi hci=>?_⟩;obtain ⟨o,k⟩:=hone_of hone i f hfi;have h1:=hx i f hfi;rw [o,k] at h1;have hi:i < fs.size:=(Array.getElem?_eq_some_iff.1 hfi).1;have h2:((Value.agg cs).cells.toList.drop i).take 1 = [c]:=by
  have h3:cs.toList[i]? = some c:=by simpa using hci
  have h4:(cs.toList.drop i).take 1 = [c]:=by
   obtain ⟨hlt,he⟩:=List.getElem?_eq_some_iff.1 h3;rw [List.drop_eq_getElem_cons hlt,he];rfl
  simpa [Value.cells] using h4
 rw [h2] at h1;obtain ⟨y,hy⟩:∃ y,xs[i]? = some y:=⟨xs[i]'(by omega),List.getElem?_eq_getElem (by omega)⟩;exact ⟨n,y,h1.trans hy⟩
end
theorem lst_of {H:Type} {enc:TypeId × Value -> H} {P:Program} {W:World} {held:Bool} {t e:TypeId} (h1:P.underlying t = some (.slice e)) (h2:P.underlying e = some (.int .i64)) (h3:P.cellsOf e = 1) {c:Value}
  (h:∃ n y,DataW.trod enc P W 0 (fun _=>true) held n t [c] = some y):∃ xs,Lst W c xs /\ ∀ n ∈ xs,-9223372036854775808 <= n /\ n <= 9223372036854775807:=by
 obtain ⟨n,y,h⟩:=h;rcases open_ints h1 h2 h3 h with ⟨hcs,_⟩ | ⟨x,l,c',zs,hcs,_,hl,hm,hz,_,hcell,hwz⟩
 ·obtain rfl:c = .slice none 0 0:=by simpa using hcs
  exact ⟨[],.nil _ _ _ (by unfold maxLen;omega) (fun _=>rfl),by simp⟩
 ·obtain rfl:c = .slice (some x) l c':=by simpa using hcs
  obtain ⟨xs,hx,_,hb⟩:=IsRow.lst (w:=W) (.inr ⟨_,rfl,hl,hm,by simpa using hz,hcell,hwz⟩);exact ⟨xs,hx,hb⟩
theorem bool_of {H:Type} {enc:TypeId × Value -> H} {P:Program} {W:World} {held:Bool} {t:TypeId} (h1:P.underlying t = some .bool) {c:Value}
  (h:∃ n y,DataW.trod enc P W 0 (fun _=>true) held n t [c] = some y):∃ b,c = .bool b:=by
 obtain ⟨n,y,h⟩:=h;obtain ⟨b,h,_⟩:=DataW.trod_bool h1 h;exact ⟨b,by simpa using h⟩
theorem int_of {H:Type} {enc:TypeId × Value -> H} {P:Program} {W:World} {held:Bool} {t:TypeId} (h1:P.underlying t = some (.int .i64)) {c:Value}
  (h:∃ n y,DataW.trod enc P W 0 (fun _=>true) held n t [c] = some y):∃ i,c = .int .i64 i /\ -9223372036854775808 <= i /\ i <= 9223372036854775807:=by
 obtain ⟨n,y,h⟩:=h;obtain ⟨i,h,_,hw⟩:=DataW.trod_int h1 h;exact ⟨i,by simpa using h,bounds_i64 hw⟩
end FrG
end
namespace Gm
open Um Cm
structure St where
 k:Int
 d:Bool
 s:Bool
 o:Bool
def st0:St:=⟨-1,false,false,false⟩
def alB (k:Int):Bool:=decide (k = 3) || decide (k = 1) || decide (k = 2)
def sylB (a k:Int):Bool :=
 if a = 9 then decide (k = 9) || decide (k = 10) || decide (k = 12) || decide (k = 13)
 else if a = 12 \/ a = 10 then decide (k = 10) || decide (k = 11)
 else if a = 13 \/ a = 11 then decide (k = 11) else false
def pairB (a k:Int):Bool :=
 if a = -1 then false else if a = 1 /\ k = 2 then true else if alB a = true \/ alB k = true then false
 else if k = 4 \/ k = 5 \/ k = 8 then true else if a = 7 then true else sylB a k
def stp (t:St) (k:Int):St:=⟨k,decide (k = 14) || (t.d && decide (k = 4)),t.d && decide (k = 5),decide (k = 6) && !t.o⟩
def jn (t:St) (k:Int):Bool:=pairB t.k k || (t.s && decide (k = 14)) || (t.o && decide (k = 6))
def stR:List Nat -> St
 | []=>st0
 | k :: r=>stp (stR r) k
def stL (l:List Int):St:=l.foldl (fun t c=>stp t (cls c)) st0
theorem stL_snoc (l:List Int) (c:Int):stL (l ++ [c]) = stp (stL l) (cls c):=by simp [stL]
theorem stL_rev (l:List Int):stL l = stR (l.map cls).reverse:=by
 have h:∀ r:List Int,stL r.reverse = stR (r.map cls):=by
  intro r;induction r with
  | nil=>rfl
  | cons c r ih=>rw [List.reverse_cons,stL_snoc,ih];rfl
 have:=h l.reverse;rw [List.reverse_reverse] at this;rw [this,List.map_reverse]
theorem stR_d (r:List Nat):(stR r).d = decide ((r.dropWhile (· == 4)).head? = some 14):=by
 induction r with
 | nil=>rfl
 | cons k r ih =>
  show (decide ((k:Int) = 14) || ((stR r).d && decide ((k:Int) = 4))) = _;rw [ih];by_cases h:k = 4
  ·subst h;simp
  ·have h1:((k:Int) = 4) = False:=by simp;omega
   rw [List.dropWhile_cons_of_neg (by simpa using h)];simp only [h1,decide_false,Bool.and_false,Bool.or_false,List.head?_cons,Option.some.injEq];rw [decide_eq_decide];omega
theorem stR_o (r:List Nat):(stR r).o = decide ((r.takeWhile (· == 6)).length % 2 = 1):=by
 induction r with
 | nil=>rfl
 | cons k r ih =>
  show (decide ((k:Int) = 6) && !(stR r).o) = _;rw [ih];by_cases h:k = 6
  ·subst h
   rw [List.takeWhile_cons_of_pos (by simp),List.length_cons];rw [show decide (((6:Nat):Int) = 6) = true from rfl,Bool.true_and];rw [Bool.eq_iff_iff];simp;omega
  ·have h1:((k:Int) = 6) = False:=by simp;omega
   rw [List.takeWhile_cons_of_neg (by simpa using h)];simp [h1]
def refR:List Nat -> Int -> Bool
 | [],_=>false
 | a :: r,k=>if a = 1 /\ k = 2 then true else if alB a = true \/ alB k = true then false
  else if sylB a k = true \/ k = 4 \/ k = 5 \/ k = 8 \/ a = 7 then true
  else if a = 5 /\ k = 14 then decide ((r.dropWhile (· == 4)).head? = some 14)
  else decide (k = 6) && decide (((a :: r).takeWhile (· == 6)).length % 2 = 1)
theorem stR_inv (r:List Nat):((stR r).d = true -> (stR r).k = 14 \/ (stR r).k = 4) /\ ((stR r).s = true -> (stR r).k = 5) /\ ((stR r).o = true -> (stR r).k = 6):=by
 cases r with
 | nil=>simp [stR,st0]
 | cons k r =>
  refine ⟨fun h=>?_,fun h=>?_,fun h=>?_⟩
  ·have h':(decide ((k:Int) = 14) || ((stR r).d && decide ((k:Int) = 4))) = true:=h
   show (k:Int) = 14 \/ (k:Int) = 4;simp at h';omega
  ·have h':((stR r).d && decide ((k:Int) = 5)) = true:=h
   show (k:Int) = 5;simp at h';omega
  ·have h':(decide ((k:Int) = 6) && !(stR r).o) = true:=h
   show (k:Int) = 6;simp at h';omega
theorem jn_ref (r:List Nat) (k:Int):jn (stR r) k = refR r k:=by
 cases r with
 | nil=>simp [jn,stR,st0,refR,pairB]
 | cons a r =>
  have hk:(stR (a :: r)).k = (a:Int):=rfl;have hs:(stR (a :: r)).s = ((stR r).d && decide ((a:Int) = 5)):=rfl;have ho:=stR_o (a :: r);have hi:=(stR_inv (a :: r)).2.2;have hd:=stR_d r;unfold jn;rw [hk,hs];unfold refR pairB;rw [if_neg (by omega)];rw [hk] at hi;have e1:((a:Int) = 1 /\ k = 2) = (a = 1 /\ k = 2):=by rw [eq_iff_iff];omega
  simp only [e1];by_cases c1:a = 1 /\ k = 2
  ·rw [if_pos c1,if_pos c1];rfl
  ·rw [if_neg c1,if_neg c1]
   by_cases c2:alB (a:Int) = true \/ alB k = true
   ·rw [if_pos c2,if_pos c2]
    rcases c2 with c2 | c2
    ·have h5:¬ ((a:Int) = 5):=by intro e;rw [e] at c2;revert c2;decide
     have h6:¬ (a:Int) = 6:=by intro e;rw [e] at c2;revert c2;decide
     have:(stR (a :: r)).o = false:=by
      cases h:(stR (a :: r)).o
      ·rfl
      ·exact absurd (hi h) h6
     rw [this];simp [h5]
    ·have h5:¬ (k = 14):=by intro e;rw [e] at c2;revert c2;decide
     have h6:¬ (k = 6):=by intro e;rw [e] at c2;revert c2;decide
     simp [h5,h6]
   ·rw [if_neg c2,if_neg c2]
    by_cases c3:k = 4 \/ k = 5 \/ k = 8
    ·rw [if_pos c3,if_pos (.inr (by omega))];rfl
    ·rw [if_neg c3]
     by_cases c4:(a:Int) = 7
     ·rw [if_pos c4,if_pos (.inr (by omega))];rfl
     ·rw [if_neg c4]
      by_cases c5:sylB a k = true
      ·rw [if_pos (.inl c5),c5];rfl
      ·rw [if_neg (by rintro (h | h);exact c5 h;omega)]
       have c5':sylB a k = false:=by simpa using c5
       rw [c5',Bool.false_or];by_cases c6:a = 5 /\ k = 14
       ·obtain ⟨rfl,rfl⟩:=c6
        rw [if_pos ⟨rfl,rfl⟩,hd];simp
       ·rw [if_neg c6,ho]
        have:((stR r).d && decide ((a:Int) = 5) && decide (k = 14)) = false:=by
         by_cases h5:(a:Int) = 5
         ·have:¬ k = 14:=fun h=>c6 ⟨by omega,h⟩
          simp [this]
         ·simp [h5]
        rw [this,Bool.false_or,Bool.and_comm]
def stMs (ms:List (Int × Nat × Bool)):St:=stL (ms.map (·.1))
def begF (t:St) (p:Nat):List (Int × Nat × Bool) -> List Int
 | []=>[]
 | m :: r=>(if jn t (cls m.1) = true then [] else [(p:Int)]) ++ begF (stp t (cls m.1)) (p + m.2.1) r
def begL (l:List UInt8):List Int:=begF st0 0 (marks l)
def width (ms:List (Int × Nat × Bool)):Nat:=(ms.map (·.2.1)).sum
theorem begF_append (t:St) (p:Nat) (a b:List (Int × Nat × Bool)) :
  begF t p (a ++ b) = begF t p a ++ begF ((a.map (·.1)).foldl (fun t c=>stp t (cls c)) t) (p + width a) b:=by
 induction a generalizing t p with
 | nil=>simp [begF,width]
 | cons m a ih =>
  simp only [List.cons_append,begF,ih,List.map_cons,List.foldl_cons,List.append_assoc,width,List.sum_cons];rw [Nat.add_assoc]
theorem begF_snoc (ms:List (Int × Nat × Bool)) (m:Int × Nat × Bool) :
  begF st0 0 (ms ++ [m]) = begF st0 0 ms ++ (if jn (stMs ms) (cls m.1) = true then [] else [(width ms:Int)]):=by
 rw [begF_append];simp only [begF,List.append_nil,Nat.zero_add];rfl
theorem stMs_snoc (ms:List (Int × Nat × Bool)) (m:Int × Nat × Bool):stMs (ms ++ [m]) = stp (stMs ms) (cls m.1):=by
 unfold stMs;rw [List.map_append];exact stL_snoc _ _
theorem width_snoc (ms:List (Int × Nat × Bool)) (m:Int × Nat × Bool):width (ms ++ [m]) = width ms + m.2.1:=by simp [width]
theorem begF_pre (a b:List (Int × Nat × Bool)):begF st0 0 a <+: begF st0 0 (a ++ b):=by rw [begF_append];exact List.prefix_append _ _
theorem begF_length (t:St) (p:Nat) (ms:List (Int × Nat × Bool)):(begF t p ms).length <= ms.length:=by
 induction ms generalizing t p with
 | nil=>simp [begF]
 | cons m ms ih =>
  have:=ih (stp t (cls m.1)) (p + m.2.1);simp only [begF,List.length_append,List.length_cons];split <;> simp <;> omega
theorem begL_length (l:List UInt8):(begL l).length <= l.length:=Nat.le_trans (begF_length _ _ _) (marks_length l)
theorem begF_bd (t:St) (p:Nat) (ms:List (Int × Nat × Bool)):∀ x ∈ begF t p ms,(p:Int) <= x /\ x <= p + width ms:=by
 induction ms generalizing t p with
 | nil=>simp [begF]
 | cons m ms ih =>
  intro x hx;have hw:width (m :: ms) = m.2.1 + width ms:=by simp [width]
  rw [begF,List.mem_append] at hx;rcases hx with hx | hx
  ·split at hx
   ·cases hx
   ·rw [List.mem_singleton] at hx;omega
  ·have:=ih _ _ x hx
   omega
theorem width_marks (l:List UInt8):width (marks l) = l.length:=by
 refine marks_ind (p:=fun l=>width (marks l) = l.length) rfl ?_ l;intro l hl ih;have:=mark_n l hl;rw [marks_cons l hl];show (mrk l).2.1 + width (marks (l.drop (mrk l).2.1)) = _;rw [ih,List.length_drop];omega
def frsL (l:List UInt8):Int:=((begL l).find? (fun x=>decide (0 < x))).getD l.length
theorem frsL_none (l:List UInt8) (h:∀ x ∈ begL l,¬ 0 < x):frsL l = l.length:=by
 unfold frsL;rw [List.find?_eq_none.2 (by simpa using h)];rfl
theorem frsL_some (l:List UInt8) (r:List Int) (x:Int) (hp:r ++ [x] <+: begL l) (hx:0 < x) (h:∀ y ∈ r,¬ 0 < y):frsL l = x:=by
 obtain ⟨t,ht⟩:=hp;unfold frsL;rw [<- ht,List.append_assoc,List.find?_append,List.find?_eq_none.2 (by simpa using h)];simp [hx]
end Gm
section
namespace Pt
open Um
/-! ### numbers made of any -/
def nmB (c:Int):Bool:=c == 35 || c == 48 || c == 44 || c == 46
theorem nmB_kind {c:Int} (h:nmB c = true):c ≠ 39 /\ kindC c = 4:=by
 simp only [nmB,Bool.or_eq_true,beq_iff_eq] at h;rcases h with ((rfl | rfl) | rfl) | rfl <;> decide
theorem nmT_all:∀ z,z < 7 -> ∀ p,p < 5 -> ∀ q,q < 5 -> ∀ a,a < 4 -> ∀ b,b < 4 ->
  ((match num (nmT z p q a b) with | none=>false | some n=>!n.long) && (nmT z p q a b).all nmB && decide (1 <= (nmT z p q a b).length /\ (nmT z p q a b).length <= 20)) = true:=by decide +kernel
theorem nmT_ok {z p q a b:Nat} (hz:z < 7) (hp:p < 5) (hq:q < 5) (ha:a < 4) (hb:b < 4) :
  (∃ n,num (nmT z p q a b) = some n /\ n.long = false) /\ (∀ c ∈ nmT z p q a b,nmB c = true) /\ 1 <= (nmT z p q a b).length /\ (nmT z p q a b).length <= 20:=by
 have h:=nmT_all z hz p hp q hq a ha b hb;simp only [Bool.and_eq_true,List.all_eq_true,decide_eq_true_eq] at h;refine ⟨?_,h.1.2,h.2⟩;have h1:=h.1.1;cases hn:num (nmT z p q a b) with
 | none=>rw [hn] at h1;cases h1
 | some n=>rw [hn] at h1;exact ⟨n,rfl,by simpa using h1⟩
theorem sign_out (ns:List Int) (h:∀ c ∈ ns,nmB c = true):outS false false ns = some (ns.map fun c=>(4,c),false,false):=by
 induction ns with
 | nil=>rfl
 | cons c r ih =>
  obtain ⟨h1,h2⟩:=nmB_kind (h c List.mem_cons_self);rw [outS_cons,if_neg h1,if_neg (by simp),h2,if_neg (by decide),ih fun d hd=>h d (List.mem_cons_of_mem _ hd)];rfl
theorem signs_out (c:Bool) (ns:List Int) (h:∀ c ∈ ns,nmB c = true) (hn:1 <= ns.length):outS c c ns = some (ns.map fun c=>(4,c),false,false):=by
 cases ns with
 | nil=>simp at hn
 | cons d r =>
  obtain ⟨h1,h2⟩:=nmB_kind (h d List.mem_cons_self);rw [outS_cons,if_neg h1,if_neg (by simp),h2,if_neg (by decide),sign_out r fun d hd=>h d (List.mem_cons_of_mem _ hd)];rfl
structure Hv (P N S:List (Int × Int)):Prop where
 p:okT P
 s:okT S
 n:∀ x ∈ N,x.1 = 4
theorem okT_isN {l:List (Int × Int)} (h:okT l):∀ x ∈ l,isN x = false:=fun x hx=>by
 have:=h x hx;unfold isN;rw [beq_eq_false_iff_ne];omega
theorem okT_isD {l:List (Int × Int)} (h:okT l):∀ x ∈ l,isD x = false:=fun x hx=>by
 have:=h x hx;unfold isD;rw [beq_eq_false_iff_ne];omega
theorem tw_all {α:Type} {f:α -> Bool} {a b:List α} (h:∀ x ∈ a,f x = true):(a ++ b).takeWhile f = a ++ b.takeWhile f /\ (a ++ b).dropWhile f = b.dropWhile f:=by
 induction a with
 | nil=>exact ⟨rfl,rfl⟩
 | cons x r ih =>
  have hx:=h x List.mem_cons_self;have:=ih fun y hy=>h y (List.mem_cons_of_mem _ hy);simp [List.takeWhile_cons,List.dropWhile_cons,hx,this]
theorem tw_no {α:Type} {f:α -> Bool} {a:List α} (h:∀ x ∈ a,f x = false):a.takeWhile f = [] /\ a.dropWhile f = a:=by
 cases a with
 | nil=>exact ⟨rfl,rfl⟩
 | cons x r=>simp [List.takeWhile_cons,List.dropWhile_cons,h x List.mem_cons_self]
theorem half_of {P N S:List (Int × Int)} (h:Hv P N S) (hN:1 <= N.length):half (P ++ N ++ S) = (num (N.map (·.2))).map fun n=>⟨joinT [] P,joinT [] S,n⟩:=by
 have e1:=tw_all (f:=fun x=>!isN x) (a:=P) (b:=N ++ S) fun x hx=>by rw [okT_isN h.p x hx];rfl
 have hNn:∀ x ∈ N,isN x = true:=fun x hx=>by unfold isN;rw [h.n x hx];rfl
 have e2:(N ++ S).takeWhile (fun x=>!isN x) = [] /\ (N ++ S).dropWhile (fun x=>!isN x) = N ++ S:=by
  cases N with
  | nil=>simp at hN
  | cons x r=>simp [List.takeWhile_cons,List.dropWhile_cons,hNn x List.mem_cons_self]
 have e3:=tw_all (f:=isN) (a:=N) (b:=S) hNn;have e4:=tw_no (f:=isN) (okT_isN h.s);have e5:S.any isN = false:=by
  rw [List.any_eq_false];intro x hx;rw [okT_isN h.s x hx];simp
 unfold half;rw [List.append_assoc];simp only [e1,e2,e3,e4,e5,List.append_nil,Bool.false_eq_true,if_false]
theorem Hv.noD {P N S:List (Int × Int)} (h:Hv P N S):∀ x ∈ P ++ N ++ S,isD x = false:=by
 intro x hx;rcases List.mem_append.1 hx with hx | hx
 ·rcases List.mem_append.1 hx with hx | hx
  ·exact okT_isD h.p x hx
  ·unfold isD;rw [h.n x hx];rfl
 ·exact okT_isD h.s x hx
theorem parse_one {P N S:List (Int × Int)} (h:Hv P N S) (hN:1 <= N.length) {n:Nm} (hn:num (N.map (·.2)) = some n) (hl:n.long = false) :
  parseT (P ++ N ++ S) = (mkP ⟨joinT [] P,joinT [] S,n⟩ ((3,[]) :: joinT [] P) (joinT [] S),0):=by
 have hd:=tw_all (f:=fun x=>!isD x) (a:=P ++ N ++ S) (b:=[]) fun x hx=>by rw [h.noD x hx];rfl
 rw [List.append_nil] at hd;unfold parseT;rw [hd.1,hd.2];simp only [List.takeWhile_nil,List.dropWhile_nil,List.append_nil,half_of h hN,hn,Option.map_some,hl,Bool.false_eq_true,if_false]
theorem parse_two {P N S P' N' S':List (Int × Int)} (h:Hv P N S) (hN:1 <= N.length) {n:Nm} (hn:num (N.map (·.2)) = some n) (hl:n.long = false) (h':Hv P' N' S') (hN':1 <= N'.length) {n':Nm} (hn':num (N'.map (·.2)) = some n') (hl':n'.long = false) :
  parseT (P ++ N ++ S ++ (5,59) :: (P' ++ N' ++ S')) = (mkP ⟨joinT [] P,joinT [] S,n⟩ (joinT [] P') (joinT [] S'),0):=by
 have hd:=tw_all (f:=fun x=>!isD x) (a:=P ++ N ++ S) (b:=(5,59) :: (P' ++ N' ++ S')) fun x hx=>by rw [h.noD x hx];rfl
 have h5:isD (5,59) = true:=rfl;have ha:(P' ++ N' ++ S').any isD = false:=by
  rw [List.any_eq_false];intro x hx;rw [h'.noD x hx];simp
 unfold parseT;rw [hd.1,hd.2];simp only [List.takeWhile_cons,List.dropWhile_cons,h5,Bool.not_true,Bool.false_eq_true,if_false,List.append_nil,half_of h hN,hn,Option.map_some,hl,ha,half_of h' hN',hn',hl',Bool.or_self]
def hfT (pre suf:List Int) (z p q a b:Nat):List Int:=sgL pre ++ nmT z p q a b ++ sgL suf
theorem hfT_out (pre suf:List Int) {z p q a b:Nat} (hz:z < 7) (hp:p < 5) (hq:q < 5) (ha:a < 4) (hb:b < 4) :
  ∃ P N S c,outS false false (hfT pre suf z p q a b) = some (P ++ N ++ S,c,c) /\ Hv P N S /\ N.map (·.2) = nmT z p q a b /\ 1 <= N.length:=by
 obtain ⟨_,h2,h3,_⟩:=nmT_ok hz hp hq ha hb;obtain ⟨P,c1,h4,h5⟩:=sgL_out pre false;obtain ⟨S,c2,h6,h7⟩:=sgL_out suf false;refine ⟨P,(nmT z p q a b).map fun c=>(4,c),S,c2,?_,⟨h5,h7,fun x hx=>?_⟩,?_,by rw [List.length_map];exact h3⟩
 ·unfold hfT
  rw [out_append,out_append,h4];simp [signs_out c1 _ h2 h3,h6]
 ·obtain ⟨d,_,rfl⟩:=List.mem_map.1 hx;rfl
 ·rw [List.map_map]
  conv=>rhs;rw [<- List.map_id (nmT z p q a b)]
  rfl
theorem halves (pre suf:List Int) {z p q a b:Nat} (hz:z < 7) (hp:p < 5) (hq:q < 5) (ha:a < 4) (hb:b < 4) :
  ∃ X:Pat,parseC (hfT pre suf z p q a b) = (X,0) /\ parseC (hfT pre suf z p q a b ++ 59 :: 45 :: hfT pre suf z p q a b) = (X,0) /\ X.npre = (3,[]) :: X.pre:=by
 obtain ⟨⟨n,hn,hl⟩,_⟩:=nmT_ok hz hp hq ha hb;obtain ⟨P,N,S,c,ho,hv,hN,hN1⟩:=hfT_out pre suf hz hp hq ha hb;rw [<- hN] at hn;have t1:tkn (hfT pre suf z p q a b) = some (P ++ N ++ S):=by
  unfold tkn;rw [tok_out,ho];simp
 have hv':Hv ((3,45) :: P) N S:=⟨fun x hx=>by
  rcases List.mem_cons.1 hx with rfl | hx
  ·simp
  ·exact hv.p x hx,hv.s,hv.n⟩
 have t2:tkn (hfT pre suf z p q a b ++ 59 :: 45 :: hfT pre suf z p q a b) = some (P ++ N ++ S ++ (5,59) :: ((3,45) :: P ++ N ++ S)):=by
  unfold tkn;rw [tok_append,ho];have e:tokS c c (59 :: 45 :: hfT pre suf z p q a b) = some ((5,59) :: (3,45) :: (P ++ N ++ S)):=by
   rw [tokS_cons,if_neg (by decide),if_neg (by simp),if_neg (by decide),tokS_cons,if_neg (by decide),if_neg (by decide),if_neg (by decide)];have:=t1;unfold tkn at this;rw [this];rfl
  simp [e]
 refine ⟨mkP ⟨joinT [] P,joinT [] S,n⟩ ((3,[]) :: joinT [] P) (joinT [] S),?_,?_,rfl⟩
 ·unfold parseC
  rw [t1];exact parse_one hv hN1 hn hl
 ·unfold parseC
  rw [t2];have:=parse_two hv hN1 hn hl hv' hN1 hn hl;have ej:joinT [] ((3,45) :: P) = (3,[]) :: joinT [] P:=rfl;rw [ej] at this;exact this
/-! ### long numbers -/
/-! ### a literal of whatever signs -/
def dbl (l:List Int):List Int:=l.flatMap fun c=>if c = 39 then [39,39] else [c]
def lit (l:List Int):List (Int × Int):=l.map fun c=>(0,c)
theorem dbl_cons (c:Int) (r:List Int):dbl (c :: r) = (if c = 39 then [39,39] else [c]) ++ dbl r:=rfl
theorem dbl_in (l:List Int):outS true false (dbl l) = some (lit l,true,false):=by
 induction l with
 | nil=>rfl
 | cons c r ih =>
  rw [dbl_cons];by_cases h:c = 39
  ·subst h
   rw [if_pos rfl];show outS true false (39 :: 39 :: dbl r) = _;rw [outS_cons,if_pos rfl,if_neg (by decide),outS_cons,if_pos rfl,if_pos rfl,ih];rfl
  ·rw [if_neg h]
   show outS true false (c :: dbl r) = _;rw [outS_cons,if_neg h,if_pos (by decide),ih];rfl
theorem dbl_first (l:List Int) (h:∃ c ∈ l,c ≠ 39):outS false true (dbl l) = some (lit l,true,false):=by
 induction l with
 | nil=>obtain ⟨c,hc,_⟩:=h;cases hc
 | cons c r ih =>
  rw [dbl_cons];by_cases hc:c = 39
  ·subst hc
   rw [if_pos rfl];show outS false true (39 :: 39 :: dbl r) = _;have hr:∃ c ∈ r,c ≠ 39:=by
    obtain ⟨d,hd,hn⟩:=h;rcases List.mem_cons.1 hd with rfl | hd
    ·exact absurd rfl hn
    ·exact ⟨d,hd,hn⟩
   rw [outS_cons,if_pos rfl,if_pos rfl,outS_cons,if_pos rfl,if_neg (by decide),ih hr];rfl
  ·rw [if_neg hc]
   show outS false true (c :: dbl r) = _;rw [outS_cons,if_neg hc,if_pos (by decide),dbl_in r];rfl
theorem okT_lit (l:List Int):okT (lit l):=fun x hx=>by
 obtain ⟨c,_,rfl⟩:=List.mem_map.1 hx;simp
def nm1:Nm:=⟨0,0,0,0,0,false⟩
theorem num_one:num [35] = some nm1:=by decide +kernel
def litP (l:List Int):Pat:=mkP ⟨joinT [] (lit l),[],nm1⟩ ((3,[]) :: joinT [] (lit l)) []
theorem parse_lit {cs l:List Int} (h:∃ b,outS false false cs = some (lit l,b,b)):parseC (cs ++ [35]) = (litP l,0):=by
 obtain ⟨b,hb⟩:=h;have t1:tkn (cs ++ [35]) = some (lit l ++ [(4,35)] ++ []):=by
  unfold tkn;rw [tok_append,hb];have:tokS b b [35] = some [(4,35)]:=by
   rw [tokS_cons,if_neg (by decide),if_neg (by simp),if_neg (by decide)];rfl
  simp [this]
 unfold parseC;rw [t1];exact parse_one (N:=[(4,35)]) ⟨okT_lit l,fun x hx=>absurd hx List.not_mem_nil,fun x hx=>by simp at hx;rw [hx]⟩ (by simp) num_one rfl
theorem quoted (l:List Int) (h:∃ c ∈ l,c ≠ 39):parseC (39 :: dbl l ++ [39] ++ [35]) = (litP l,0):=by
 refine parse_lit ⟨true,?_⟩;rw [List.cons_append,outS_cons,if_pos rfl,if_neg (by decide),out_append,dbl_first l h];simp [outS]
end Pt
end
section
open Go.RowKit Cm
def flat2 (l:List (Int × Int)):List Value:=l.flatMap fun r=>[.int .i64 r.1,.int .i64 r.2]
theorem flat2_get (l:List (Int × Int)) (i:Nat) (h:i < l.length) :
  (flat2 l)[i * 2]? = some (.int .i64 (l.getD i (0,0)).1) /\ (flat2 l)[i * 2 + 1]? = some (.int .i64 (l.getD i (0,0)).2):=by
 induction l generalizing i with
 | nil=>simp at h
 | cons r l ih =>
  cases i with
  | zero=>simp [flat2]
  | succ i =>
   have:=ih i (by simpa using h);have e:flat2 (r :: l) = .int .i64 r.1 :: .int .i64 r.2 :: flat2 l:=by simp [flat2]
   rw [e,show (i + 1) * 2 = i * 2 + 1 + 1 from by omega];simpa using this
def PRow (w:World) (v:Value) (l:List (Int × Int)):Prop :=
 ∃ a,v = .slice a l.length l.length /\ ∀ i,i < l.length -> ∃ g,a = some ⟨g,0,none⟩ /\ g < w.heap.size /\ w.cell? ⟨g,i * 2,none⟩ = some (.int .i64 (l.getD i (0,0)).1) /\ w.cell? ⟨g,i * 2 + 1,none⟩ = some (.int .i64 (l.getD i (0,0)).2)
theorem PRow.q {w w':World} {v:Value} {l:List (Int × Int)} (h:PRow w v l) (hq:Q w w'):PRow w' v l:=by
 obtain ⟨a,hv,hc⟩:=h;refine ⟨a,hv,fun i hi=>?_⟩;obtain ⟨g,ha,hg,h1,h2⟩:=hc i hi;refine ⟨g,ha,Nat.lt_of_lt_of_le hg hq.le,?_,?_⟩
 ·rw [World.cell?_of_block (w:=w) (hq.block hg)];exact h1
 ·rw [World.cell?_of_block (w:=w) (hq.block hg)];exact h2
theorem PRow.nil (w:World):PRow w (.slice none 0 0) []:=⟨none,rfl,fun i h=>by simp at h⟩
theorem PRow.made (w:World) (l:List (Int × Int)) (n:Nat) (hn:l.length = n) (t:TypeId) (cs:Array Value) (hcs:cs = (flat2 l).toArray) :
  PRow (w.alloc (.cells cs t)) (.slice (some ⟨w.heap.size,0,none⟩) n n) l:=by
 subst hn hcs;refine ⟨_,rfl,fun i hi=>⟨w.heap.size,rfl,by simp,?_,?_⟩⟩
 ·rw [World.cell?_alloc_at _ _ _ _ rfl];simpa using (flat2_get l i hi).1
 ·rw [World.cell?_alloc_at _ _ _ _ rfl];simpa using (flat2_get l i hi).2
def flat3 (l:List (Int × Int × Int)):List Value:=l.flatMap fun r=>[.int .i64 r.1,.int .i64 r.2.1,.int .i64 r.2.2]
theorem flat3_get (l:List (Int × Int × Int)) (i:Nat) (h:i < l.length) :
  (flat3 l)[i * 3]? = some (.int .i64 (l.getD i (0,0,0)).1) /\ (flat3 l)[i * 3 + 1]? = some (.int .i64 (l.getD i (0,0,0)).2.1) /\ (flat3 l)[i * 3 + 2]? = some (.int .i64 (l.getD i (0,0,0)).2.2):=by
 induction l generalizing i with
 | nil=>simp at h
 | cons r l ih =>
  cases i with
  | zero=>simp [flat3]
  | succ i =>
   have:=ih i (by simpa using h);have e:flat3 (r :: l) = .int .i64 r.1 :: .int .i64 r.2.1 :: .int .i64 r.2.2 :: flat3 l:=by simp [flat3]
   rw [e,show (i + 1) * 3 = i * 3 + 1 + 1 + 1 from by omega];simpa using this
def TRow (w:World) (g:Nat) (l:List (Int × Int × Int)):Prop :=
 g < w.heap.size /\ ∀ i,i < l.length -> w.cell? ⟨g,i * 3,none⟩ = some (.int .i64 (l.getD i (0,0,0)).1) /\ w.cell? ⟨g,i * 3 + 1,none⟩ = some (.int .i64 (l.getD i (0,0,0)).2.1) /\ w.cell? ⟨g,i * 3 + 2,none⟩ = some (.int .i64 (l.getD i (0,0,0)).2.2)
theorem TRow.q {w w':World} {g:Nat} {l:List (Int × Int × Int)} (h:TRow w g l) (hq:Q w w'):TRow w' g l:=by
 obtain ⟨hg,hc⟩:=h;refine ⟨Nat.lt_of_lt_of_le hg hq.le,fun i hi=>?_⟩;obtain ⟨h1,h2,h3⟩:=hc i hi;exact ⟨(World.cell?_of_block (w:=w) (hq.block hg)).trans h1,(World.cell?_of_block (w:=w) (hq.block hg)).trans h2,(World.cell?_of_block (w:=w) (hq.block hg)).trans h3⟩
theorem TRow.made (w:World) (l:List (Int × Int × Int)) (t:TypeId) (cs:Array Value) (hcs:cs = (flat3 l).toArray) :
  TRow (w.alloc (.cells cs t)) w.heap.size l:=by
 subst hcs;refine ⟨by simp,fun i hi=>⟨?_,?_,?_⟩⟩
 ·rw [World.cell?_alloc_at _ _ _ _ rfl];simpa using (flat3_get l i hi).1
 ·rw [World.cell?_alloc_at _ _ _ _ rfl];simpa using (flat3_get l i hi).2.1
 ·rw [World.cell?_alloc_at _ _ _ _ rfl];simpa using (flat3_get l i hi).2.2
end
section
open Go.RowKit
namespace Rw
theorem all1 {l:List Value} (h:l.all (·.oneCell') = true):l.toArray.all (·.oneCell') = true:=by simpa using h
theorem Q_row {w u:World} (h:Q w u) {b:Nat} (hb:w.heap.size <= b) (cs:Array Value):Q w (u.setRow b cs):=below_setRow h hb cs
theorem Bk_row {u:World} {b:Nat} {T:TypeId} {l:List Value} (h:Bk u b T l) (l':List Value):Bk (u.setRow b l'.toArray) b T l':=setRow_heap u b l.toArray l'.toArray T (0,0) h
theorem Bk_other {u:World} {b g:Nat} {T:TypeId} {l:List Value} (h:Bk u b T l) (hg:b ≠ g) (cs:Array Value):Bk (u.setRow g cs) b T l:=(setRow_other u g b cs hg).trans h
end Rw
end
section
open Go.RowKit
theorem ld_row {o:Oper} {a:Act} {T:TypeId} {x:Operand} {b:Nat} {l:List Value} {uz:World} {fs:_} (ho:o.op = .load T x) (hx:a.eval x = .pointer (some ⟨b,0,none⟩))
  (hB:Bk uz b T l) (hu:Tryz.prog.underlying T = some (.struct fs)) (hi:(Tryz.prog.info? T).map (·.size) = some l.length) :
  (execOp a.eval o).run Tryz.prog uz = .ok (.value (.agg l.toArray)) uz:=by
 have h:=run_loadVar_row uz b T T l.toArray (0,0) _ hB hu rfl (by simpa using hi);unfold execOp;simp only [ho,hx,Instr.loadAt,Instr.sureAddr,Sem.run_bind,Sem.run_pure,Result.andThen_ok,h]
end
section
open Go.RowKit
namespace Im
abbrev E:=Int × ByteArray × Int
def e0:E:=(0,⟨#[]⟩,0)
def flat (l:List E):List Value:=l.flatMap fun p=>[.int .i64 p.1,.string p.2.1,.int .i64 p.2.2]
theorem flat_cons (p:E) (l:List E):flat (p :: l) = .int .i64 p.1 :: .string p.2.1 :: .int .i64 p.2.2 :: flat l:=by simp [flat]
theorem flat_len (l:List E):(flat l).length = l.length * 3:=by
 induction l with
 | nil=>rfl
 | cons p l ih=>rw [flat_cons];simp [ih];omega
theorem flat_app (a b:List E):flat (a ++ b) = flat a ++ flat b:=by simp [flat]
theorem flat_get (l:List E) (i:Nat) (h:i < l.length):(flat l)[i * 3]? = some (.int .i64 (l.getD i e0).1) /\ (flat l)[i * 3 + 1]? = some (.string (l.getD i e0).2.1) /\ (flat l)[i * 3 + 2]? = some (.int .i64 (l.getD i e0).2.2):=by
 induction l generalizing i with
 | nil=>simp at h
 | cons p l ih =>
  cases i with
  | zero=>rw [flat_cons];simp
  | succ i =>
   have:=ih i (by simpa using h);rw [flat_cons,show (i + 1) * 3 = i * 3 + 1 + 1 + 1 from by omega];simpa using this
theorem flat_one (l:List E):∀ u ∈ flat l,u.oneCell' = true:=by
 intro u hu;obtain ⟨p,_,hp⟩:=List.mem_flatMap.1 hu;simp only [List.mem_cons,List.not_mem_nil,or_false] at hp;rcases hp with rfl | rfl | rfl <;> rfl
def LstI (w:World) (v:Value) (l:List E):Prop :=
 (l = [] /\ ∃ a c,v = .slice a 0 c /\ c <= maxLen /\ (a = none -> c = 0)) \/
 ∃ g off cap,v = .slice (some ⟨g,off,none⟩) l.length cap /\ g < w.heap.size /\ l.length <= cap /\ cap <= maxLen /\ ∀ i,i < l.length -> w.cell? ⟨g,off + i * 3,none⟩ = some (.int .i64 (l.getD i e0).1) /\ w.cell? ⟨g,off + i * 3 + 1,none⟩ = some (.string (l.getD i e0).2.1) /\ w.cell? ⟨g,off + i * 3 + 2,none⟩ = some (.int .i64 (l.getD i e0).2.2)
theorem LstI.nil (w:World) (a:Option Addr) (c:Nat) (hc:c <= maxLen) (hn:a = none -> c = 0):LstI w (.slice a 0 c) []:=.inl ⟨rfl,a,c,rfl,hc,hn⟩
theorem LstI.q {w w':World} {v:Value} {l:List E} (h:LstI w v l) (hq:Q w w'):LstI w' v l:=by
 rcases h with h | ⟨g,off,cap,hv,hg,h1,h2,hc⟩
 ·exact .inl h
 ·refine .inr ⟨g,off,cap,hv,Nat.lt_of_lt_of_le hg hq.le,h1,h2,fun i hi=>?_⟩
  obtain ⟨c1,c2,c3⟩:=hc i hi;exact ⟨(World.cell?_of_block (w:=w) (hq.block hg)).trans c1,(World.cell?_of_block (w:=w) (hq.block hg)).trans c2,(World.cell?_of_block (w:=w) (hq.block hg)).trans c3⟩
theorem LstI.shape2 {w:World} {v:Value} {l:List E} (h:LstI w v l):∃ a c,v = .slice a l.length c /\ l.length <= c /\ c <= maxLen:=by
 rcases h with ⟨rfl,a,c,rfl,hc,_⟩ | ⟨g,off,cap,hv,_,h1,h2,_⟩
 ·exact ⟨a,c,rfl,Nat.zero_le _,hc⟩
 ·exact ⟨_,_,hv,h1,h2⟩
theorem LstI.form0 {w:World} {v:Value} {l:List E} {n:Nat} (h:LstI w v l) (hn:l.length = n):∃ a c,v = .slice a n c /\ n <= c /\ c <= maxLen:=by
 subst hn;exact h.shape2
theorem LstI.cellOf {w:World} {v:Value} {l:List E} {n k:Nat} (h:LstI w v l) (hn:l.length = n) (hk:k < n) :
  ∃ g off cap,v = .slice (some ⟨g,off,none⟩) n cap /\ g < w.heap.size /\ n <= cap /\ cap <= maxLen /\ w.cell? ⟨g,off + k * 3,none⟩ = some (.int .i64 (l.getD k e0).1) /\ w.cell? ⟨g,off + k * 3 + 1,none⟩ = some (.string (l.getD k e0).2.1) /\ w.cell? ⟨g,off + k * 3 + 2,none⟩ = some (.int .i64 (l.getD k e0).2.2):=by
 rcases h with ⟨rfl,_⟩ | ⟨g,off,cap,hv,hg,h1,h2,hc⟩
 ·simp at hn;omega
 ·rw [hn] at hv h1 hc
  exact ⟨g,off,cap,hv,hg,h1,h2,(hc k hk).1,(hc k hk).2.1,(hc k hk).2.2⟩
def OwnI (T:TypeId) (w:World) (B:Nat) (v:Value) (l:List E):Prop:=w.ownsRow B T 3 v l.length (flat l)
theorem OwnI.nil (T:TypeId) (w:World) (B:Nat):OwnI T w B (.slice none 0 0) []:=World.ownsRow_nil w B T 3
theorem OwnI.mono {T:TypeId} {w:World} {B B':Nat} {v:Value} {l:List E} (h:OwnI T w B v l) (hB:B' <= B):OwnI T w B' v l:=by
 obtain ⟨h1,h2⟩:=h;refine ⟨h1,?_⟩;rcases h2 with h2 | ⟨g,cap,cur,hv,hg,r⟩
 ·exact .inl h2
 ·exact .inr ⟨g,cap,cur,hv,by omega,r⟩
theorem OwnI.same {T:TypeId} {w w':World} {B:Nat} {v:Value} {l:List E} (h:OwnI T w B v l) (hs:∀ g,v.ownBlock = some g -> w'.heap[g]? = w.heap[g]?):OwnI T w' B v l:=by
 obtain ⟨h1,h2⟩:=h;refine ⟨h1,?_⟩;rcases h2 with h2 | ⟨g,cap,cur,hv,hg,hh,r⟩
 ·exact .inl h2
 ·exact .inr ⟨g,cap,cur,hv,hg,by rw [hs g (by rw [hv];rfl)];exact hh,r⟩
theorem OwnI.lt {T:TypeId} {w:World} {B:Nat} {v:Value} {l:List E} (h:OwnI T w B v l):∀ g,v.ownBlock = some g -> B <= g /\ g < w.heap.size:=World.ownsRow.lt h
theorem OwnI.q {T:TypeId} {w w':World} {B:Nat} {v:Value} {l:List E} (h:OwnI T w B v l) (hq:Q w w'):OwnI T w' B v l:=h.same fun g hg=>hq.block (h.lt g hg).2
theorem OwnI.lst {T:TypeId} {w:World} {B:Nat} {v:Value} {l:List E} (h:OwnI T w B v l):LstI w v l:=by
 rcases h.2 with ⟨hv,hn⟩ | ⟨g,cap,cur,hv,_,hh,hnc,hcm,hcs,ht⟩
 ·have:l = []:=List.eq_nil_of_length_eq_zero hn
  subst this;subst hv;exact .nil _ _ _ (by unfold maxLen;omega) (fun _=>rfl)
 ·refine .inr ⟨g,0,cap,hv,(Array.getElem?_eq_some_iff.1 hh).1,hnc,hcm,fun i hi=>⟨?_,?_,?_⟩⟩
  ·rw [cell_of_row w g (0 + i * 3) cur T (0,0) hh]
   have h1:=congrArg (fun x=>x[i * 3]?) ht;rw [List.getElem?_take,if_pos (by omega),(flat_get l i hi).1] at h1;rw [Nat.zero_add,<- Array.getElem?_toList,h1]
  ·rw [cell_of_row w g (0 + i * 3 + 1) cur T (0,0) hh]
   have h1:=congrArg (fun x=>x[i * 3 + 1]?) ht;rw [List.getElem?_take,if_pos (by omega),(flat_get l i hi).2.1] at h1;rw [Nat.zero_add,<- Array.getElem?_toList,h1]
  ·rw [cell_of_row w g (0 + i * 3 + 2) cur T (0,0) hh]
   have h1:=congrArg (fun x=>x[i * 3 + 2]?) ht;rw [List.getElem?_take,if_pos (by omega),(flat_get l i hi).2.2] at h1;rw [Nat.zero_add,<- Array.getElem?_toList,h1]
theorem OwnI.shape {T:TypeId} {w:World} {B:Nat} {v:Value} {l:List E} (h:OwnI T w B v l):∃ a c,v = .slice a l.length c:=by
 obtain ⟨a,c,hv,_⟩:=h.lst.shape2;exact ⟨a,c,hv⟩
structure El (T ST:TypeId):Prop where
 info:(Tryz.prog.info? T).map (fun i=>(i.zero,i.size,i.bytes)) = some (some (.agg #[.int .i64 0,.string ByteArray.empty,.int .i64 0]),3,32)
 under:Tryz.prog.underlying ST = some (.slice T)
theorem push {T ST:TypeId} (he:El T ST) {w:World} {B:Nat} {v:Value} {l:List E} (hown:OwnI T w B v l) {ops:Array Oper} {rest:List Oper} {o:Oper} {a:Act} {R:Exit -> Act -> World -> Prop} (hgd:o.guard = none) (s x:Operand)
  (ho:o.op = .call { callee:=.builtin .append,args:=#[s,x],argTypes:=#[ST,ST] })
  (p:Int) (t:ByteArray) (q:Int) (hs:a.eval s = v) (hx:a.eval x = .slice (some ⟨w.heap.size,0,none⟩) 1 1) (hlen:l.length < 1073741824) (hB:B <= w.heap.size)
  (h:∀ v' w',OwnI T w' B v' (l ++ [(p,t,q)]) -> w.grownBy w' v.ownBlock -> (v'.ownBlock = v.ownBlock \/ v'.ownBlock = some (w.heap.size + 1)) -> wpList Tryz.prog ops R rest (a.put o.dst v') w') :
  wpList Tryz.prog ops R (o :: rest) a (w.alloc (.cells #[.int .i64 p,.string t,.int .i64 q] T)):=by
 obtain ⟨i0,hi,hz0,hz1,hz2⟩:=info_parts he.info;refine wpList_append_own_at _ hgd s x ST ho B T i0 (.agg #[.int .i64 0,.string ByteArray.empty,.int .i64 0]) 3 32 he.under hi hz0 hz1 hz2 rfl (by decide) v l.length _ hs (World.ownsRow.alloc hown _)
  ⟨w.heap.size,0,none⟩ 1 1 [.int .i64 p,.string t,.int .i64 q] hx rfl ?_ ?_ ?_ ?_ ?_ ?_
 ·intro j u hj
  match j,hj with
  | 0,hj=>simp at hj;subst hj;show World.cell? _ ⟨w.heap.size,0 + 0,none⟩ = _;rw [World.cell?_alloc_at _ _ _ _ rfl];rfl
  | 1,hj=>simp at hj;subst hj;show World.cell? _ ⟨w.heap.size,0 + 1,none⟩ = _;rw [World.cell?_alloc_at _ _ _ _ rfl];rfl
  | 2,hj=>simp at hj;subst hj;show World.cell? _ ⟨w.heap.size,0 + 2,none⟩ = _;rw [World.cell?_alloc_at _ _ _ _ rfl];rfl
 ·intro u hu;simp at hu;rcases hu with rfl | rfl | rfl <;> rfl
 ·unfold maxLen;omega
 ·omega
 ·simp;omega
 ·intro v' w' hown' hg _ hat
  refine h v' w' ?_ ?_ ?_
  ·unfold OwnI
   rw [List.length_append,flat_app];exact hown'
  ·exact (World.grownBy_alloc w _ _).trans hg
  ·simpa using hat
theorem pushl {T ST:TypeId} (he:El T ST) {w:World} {B:Nat} {v u:Value} {l k:List E} (hown:OwnI T w B v l) (hu:LstI w u k) {ops:Array Oper} {rest:List Oper} {o:Oper} {a:Act} {R:Exit -> Act -> World -> Prop} (hgd:o.guard = none) (s x:Operand)
  (ho:o.op = .call { callee:=.builtin .append,args:=#[s,x],argTypes:=#[ST,ST] })
  (hs:a.eval s = v) (hx:a.eval x = u) (hlen:l.length + k.length < 1073741824) (hB:B <= w.heap.size)
  (h:∀ v' w',OwnI T w' B v' (l ++ k) -> w.grownBy w' v.ownBlock -> (v'.ownBlock = v.ownBlock \/ v'.ownBlock = some w.heap.size) -> wpList Tryz.prog ops R rest (a.put o.dst v') w') :
  wpList Tryz.prog ops R (o :: rest) a w:=by
 obtain ⟨i0,hi,hz0,hz1,hz2⟩:=info_parts he.info;have key:∀ (ad:Addr) (m c:Nat),u = .slice (some ad) m c -> k.length = m -> (∀ j x,(flat k)[j]? = some x -> w.cell? (ad.add j) = some x) -> wpList Tryz.prog ops R (o :: rest) a w:=by
  intro ad m c hu hm hc;subst hu;subst hm;refine wpList_append_own_at _ hgd s x ST ho B T i0 (.agg #[.int .i64 0,.string ByteArray.empty,.int .i64 0]) 3 32 he.under hi hz0 hz1 hz2 rfl (by decide) v l.length _ hs hown
   ad k.length c (flat k) hx (by rw [flat_len]) hc (flat_one k) ?_ ?_ hB ?_
  ·unfold maxLen;omega
  ·omega
  ·intro v' w' hown' hg _ hat
   refine h v' w' ?_ hg hat;unfold OwnI;rw [List.length_append,flat_app];exact hown'
 rcases hu with ⟨rfl,ad,c,rfl,hc,hn⟩ | ⟨g,off,cap,hv,hg,h1,h2,hc⟩
 ·cases ad with
  | none =>
   obtain rfl:=hn rfl;refine wpList_append_own_none hgd s x ST ho B T i0 3 he.under hi v l.length _ hs hown hx ?_;exact h v w (by rw [List.append_nil];exact hown) ⟨rfl,rfl,rfl,Nat.le_refl _,fun _ _ _=>rfl⟩ (.inl rfl)
  | some ad=>exact key ad 0 c rfl rfl (by simp [flat])
 ·refine key ⟨g,off,none⟩ k.length cap hv rfl fun j x hj=>?_
  have hjl:j < k.length * 3:=by
   have:=(List.getElem?_eq_some_iff.1 hj).1;rwa [flat_len] at this
  have hadd:(⟨g,off,none⟩:Addr).add j = ⟨g,off + j,none⟩:=by unfold Addr.add;split <;> simp_all
  obtain ⟨i,hi⟩:∃ i,i = j / 3:=⟨_,rfl⟩;have hik:i < k.length:=by omega
  obtain ⟨f1,f2,f3⟩:=flat_get k i hik;obtain ⟨c1,c2,c3⟩:=hc i hik;rw [hadd];rcases (show j = i * 3 \/ j = i * 3 + 1 \/ j = i * 3 + 2 from by omega) with hj2 | hj2 | hj2
  ·rw [hj2] at hj |-
   rw [f1] at hj;rw [c1];exact hj
  ·rw [hj2] at hj |-
   rw [f2] at hj;rw [<- Nat.add_assoc,c2];exact hj
  ·rw [hj2] at hj |-
   rw [f3] at hj;rw [<- Nat.add_assoc,c3];exact hj
theorem pushR {T ST:TypeId} (he:El T ST) {w:World} {B:Nat} {v:Value} {l:List E} (hown:OwnI T w B v l) {ops:Array Oper} {o:Oper} {a:Act} {K:Act -> World -> Prop} {R:Exit -> Act -> World -> Prop} {E':Prop} (hgd:o.guard = none) (s x:Operand)
  (ho:o.op = .call { callee:=.builtin .append,args:=#[s,x],argTypes:=#[ST,ST] })
  {g0:Nat} (p:Int) (t:ByteArray) (q:Int) (hs:a.eval s = v) (hx:a.eval x = .slice (some ⟨g0,0,none⟩) 1 1) (c0:w.cell? ⟨g0,0,none⟩ = some (.int .i64 p)) (c1:w.cell? ⟨g0,1,none⟩ = some (.string t)) (c2:w.cell? ⟨g0,2,none⟩ = some (.int .i64 q)) (hlen:l.length < 1073741824) (hB:B <= w.heap.size)
  (h:∀ v' w',OwnI T w' B v' (l ++ [(p,t,q)]) -> w.grownBy w' v.ownBlock -> (v'.ownBlock = v.ownBlock \/ v'.ownBlock = some w.heap.size) -> K (a.put o.dst v') w') :
  if Region.wanted o (yielded ops a.tmps) = true then Oper.wp Tryz.prog o a w K R else E':=by
 obtain ⟨i0,hi,hz0,hz1,hz2⟩:=info_parts he.info;refine step_append_lies w hgd s x ST ho B T i0 (.agg #[.int .i64 0,.string ByteArray.empty,.int .i64 0]) 3 32 he.under hi hz0 hz1 hz2 rfl (by decide) v l.length _ hs hown
  ⟨g0,0,none⟩ 1 1 [.int .i64 p,.string t,.int .i64 q] hx rfl ?_ ?_ (by decide) ?_ ?_ hB w.heap.size rfl ?_
 ·intro j u hj
  match j,hj with
  | 0,hj=>simp at hj;subst hj;exact c0
  | 1,hj=>simp at hj;subst hj;exact c1
  | 2,hj=>simp at hj;subst hj;exact c2
 ·intro u hu;simp at hu;rcases hu with rfl | rfl | rfl <;> rfl
 ·unfold maxLen;omega
 ·omega
 ·intro g cap w' hown' hg hat _
  refine h _ w' ?_ hg ?_
  ·unfold OwnI
   rw [List.length_append,flat_app];exact hown'
  ·rcases hat with hat | hat
   ·exact .inl hat.symm
   ·exact .inr (by rw [hat];rfl)
theorem Gap_grow {A W W':World} {lo hi:Nat} {row:Option Nat} (h:Gap lo hi A W) (hg:W.grownBy W' row) (hr:∀ k,row = some k -> (lo <= k /\ k < hi) \/ A.heap.size <= k):Gap lo hi A W':=by
 obtain ⟨g1,g2,g3,g4,g5⟩:=hg;refine ⟨g1.trans h.os,g2.trans h.tape,g3.trans h.output,Nat.le_trans h.size g4,fun k hk ho=>?_⟩;rw [g5 k (Nat.lt_of_lt_of_le hk h.size) (by
  intro e;rcases hr k e.symm with h1 | h1 <;> omega)]
 exact h.block k hk ho
theorem gap_q2 {a b c:World} {lo hi:Nat} (h:Q a b) (hl:a.heap.size <= lo) (g:Gap lo hi b c):Q a c:=Below.trans h ⟨g.os,g.tape,g.output,g.size,fun k hk=>g.block k (Nat.lt_of_lt_of_le hk h.le) (.inl (Nat.lt_of_lt_of_le hk hl))⟩
theorem bk_gap {w w':World} {b lo hi:Nat} {T:TypeId} {l:List Value} (h:Bk w b T l) (g:Gap lo hi w w') (ho:b < lo \/ hi <= b):Bk w' b T l:=(g.block b h.lt ho).trans h
end Im
end
section
open Go.RowKit
namespace Dw
def okA (ls:List Sl):Bool:=ls.all fun s=>Dm.okB s.zs
end Dw
end
end Go.Proofs.YteggfkbnnmpcjaaGreatDoor
