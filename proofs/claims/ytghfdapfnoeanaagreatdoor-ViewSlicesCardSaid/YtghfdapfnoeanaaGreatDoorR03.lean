/- Patterns of numbers, as plain mathematics: a pattern of one half and that with its minus behind; long numbers; a literal of whatever signs. (and more) -/
import Derived.Test.YtghfdapfnoeanaaGreatDoorR00
import Derived.Test.YtghfdapfnoeanaaGreatDoorR02
import Derived.Test.YtghfdapfnoeanaaGreatDoorRows
import Derived.Deep.QuietTactic
import Derived.Deep.RegionWith
import Derived.BigQuiet
import Derived.ShutString
import Derived.Laws.BytesArg
import Derived.Lib.Hide
set_option linter.unusedVariables false
set_option linter.unusedSimpArgs false
namespace Go.Proofs.YtghfdapfnoeanaaGreatDoor
namespace Pt
open Um
/-! ### numbers made of any -/
def nmB (c:Int):Bool:=c == 35 || c == 48 || c == 44 || c == 46
theorem nmB_kind {c:Int} (h:nmB c = true):c ≠ 39 ∧ kindC c = 4:=by
 simp only [nmB,Bool.or_eq_true,beq_iff_eq] at h
 rcases h with ((rfl | rfl) | rfl) | rfl <;> decide
set_option maxRecDepth 100000 in
theorem nmT_all:∀ z,z < 7 → ∀ p,p < 5 → ∀ q,q < 5 → ∀ a,a < 4 → ∀ b,b < 4 →
  ((match num (nmT z p q a b) with | none=>false | some n=>!n.long) && (nmT z p q a b).all nmB && decide (1 ≤ (nmT z p q a b).length ∧ (nmT z p q a b).length ≤ 20)) = true:=by decide +kernel
theorem nmT_ok {z p q a b:Nat} (hz:z < 7) (hp:p < 5) (hq:q < 5) (ha:a < 4) (hb:b < 4) :
  (∃ n,num (nmT z p q a b) = some n ∧ n.long = false) ∧ (∀ c ∈ nmT z p q a b,nmB c = true) ∧ 1 ≤ (nmT z p q a b).length ∧ (nmT z p q a b).length ≤ 20:=by
 have h:=nmT_all z hz p hp q hq a ha b hb
 simp only [Bool.and_eq_true,List.all_eq_true,decide_eq_true_eq] at h
 refine ⟨?_,h.1.2,h.2⟩
 have h1:=h.1.1
 cases hn:num (nmT z p q a b) with
 | none=>rw [hn] at h1;cases h1
 | some n=>rw [hn] at h1;exact ⟨n,rfl,by simpa using h1⟩
theorem sign_out (ns:List Int) (h:∀ c ∈ ns,nmB c = true):outS false false ns = some (ns.map fun c=>(4,c),false,false):=by
 induction ns with
 | nil=>rfl
 | cons c r ih =>
  obtain ⟨h1,h2⟩:=nmB_kind (h c List.mem_cons_self)
  rw [outS_cons,if_neg h1,if_neg (by simp),h2,if_neg (by decide),ih fun d hd=>h d (List.mem_cons_of_mem _ hd)]
  rfl
theorem signs_out (c:Bool) (ns:List Int) (h:∀ c ∈ ns,nmB c = true) (hn:1 ≤ ns.length):outS c c ns = some (ns.map fun c=>(4,c),false,false):=by
 cases ns with
 | nil=>simp at hn
 | cons d r =>
  obtain ⟨h1,h2⟩:=nmB_kind (h d List.mem_cons_self)
  rw [outS_cons,if_neg h1,if_neg (by simp),h2,if_neg (by decide),sign_out r fun d hd=>h d (List.mem_cons_of_mem _ hd)]
  rfl
structure Hv (P N S:List (Int × Int)):Prop where
 p:okT P
 s:okT S
 n:∀ x ∈ N,x.1 = 4
theorem okT_isN {l:List (Int × Int)} (h:okT l):∀ x ∈ l,isN x = false:=fun x hx=>by
 have:=h x hx
 unfold isN
 rw [beq_eq_false_iff_ne];omega
theorem okT_isD {l:List (Int × Int)} (h:okT l):∀ x ∈ l,isD x = false:=fun x hx=>by
 have:=h x hx
 unfold isD
 rw [beq_eq_false_iff_ne];omega
theorem tw_all {α:Type} {f:α → Bool} {a b:List α} (h:∀ x ∈ a,f x = true):(a ++ b).takeWhile f = a ++ b.takeWhile f ∧ (a ++ b).dropWhile f = b.dropWhile f:=by
 induction a with
 | nil=>exact ⟨rfl,rfl⟩
 | cons x r ih =>
  have hx:=h x List.mem_cons_self
  have:=ih fun y hy=>h y (List.mem_cons_of_mem _ hy)
  simp [List.takeWhile_cons,List.dropWhile_cons,hx,this]
theorem tw_no {α:Type} {f:α → Bool} {a:List α} (h:∀ x ∈ a,f x = false):a.takeWhile f = [] ∧ a.dropWhile f = a:=by
 cases a with
 | nil=>exact ⟨rfl,rfl⟩
 | cons x r=>simp [List.takeWhile_cons,List.dropWhile_cons,h x List.mem_cons_self]
theorem half_of {P N S:List (Int × Int)} (h:Hv P N S) (hN:1 ≤ N.length):half (P ++ N ++ S) = (num (N.map (·.2))).map fun n=>⟨joinT [] P,joinT [] S,n⟩:=by
 have e1:=tw_all (f:=fun x=>!isN x) (a:=P) (b:=N ++ S) fun x hx=>by rw [okT_isN h.p x hx];rfl
 have hNn:∀ x ∈ N,isN x = true:=fun x hx=>by unfold isN;rw [h.n x hx];rfl
 have e2:(N ++ S).takeWhile (fun x=>!isN x) = [] ∧ (N ++ S).dropWhile (fun x=>!isN x) = N ++ S:=by
  cases N with
  | nil=>simp at hN
  | cons x r=>simp [List.takeWhile_cons,List.dropWhile_cons,hNn x List.mem_cons_self]
 have e3:=tw_all (f:=isN) (a:=N) (b:=S) hNn
 have e4:=tw_no (f:=isN) (okT_isN h.s)
 have e5:S.any isN = false:=by
  rw [List.any_eq_false]
  intro x hx;rw [okT_isN h.s x hx];simp
 unfold half
 rw [List.append_assoc]
 simp only [e1,e2,e3,e4,e5,List.append_nil,Bool.false_eq_true,if_false]
theorem Hv.noD {P N S:List (Int × Int)} (h:Hv P N S):∀ x ∈ P ++ N ++ S,isD x = false:=by
 intro x hx
 rcases List.mem_append.1 hx with hx | hx
 ·rcases List.mem_append.1 hx with hx | hx
  ·exact okT_isD h.p x hx
  ·unfold isD;rw [h.n x hx];rfl
 ·exact okT_isD h.s x hx
theorem parse_one {P N S:List (Int × Int)} (h:Hv P N S) (hN:1 ≤ N.length) {n:Nm} (hn:num (N.map (·.2)) = some n) (hl:n.long = false) :
  parseT (P ++ N ++ S) = (mkP ⟨joinT [] P,joinT [] S,n⟩ ((3,[]) :: joinT [] P) (joinT [] S),0):=by
 have hd:=tw_all (f:=fun x=>!isD x) (a:=P ++ N ++ S) (b:=[]) fun x hx=>by rw [h.noD x hx];rfl
 rw [List.append_nil] at hd
 unfold parseT
 rw [hd.1,hd.2]
 simp only [List.takeWhile_nil,List.dropWhile_nil,List.append_nil,half_of h hN,hn,Option.map_some,hl,Bool.false_eq_true,if_false]
theorem parse_two {P N S P' N' S':List (Int × Int)} (h:Hv P N S) (hN:1 ≤ N.length) {n:Nm} (hn:num (N.map (·.2)) = some n) (hl:n.long = false) (h':Hv P' N' S') (hN':1 ≤ N'.length) {n':Nm} (hn':num (N'.map (·.2)) = some n') (hl':n'.long = false) :
  parseT (P ++ N ++ S ++ (5,59) :: (P' ++ N' ++ S')) = (mkP ⟨joinT [] P,joinT [] S,n⟩ (joinT [] P') (joinT [] S'),0):=by
 have hd:=tw_all (f:=fun x=>!isD x) (a:=P ++ N ++ S) (b:=(5,59) :: (P' ++ N' ++ S')) fun x hx=>by rw [h.noD x hx];rfl
 have h5:isD (5,59) = true:=rfl
 have ha:(P' ++ N' ++ S').any isD = false:=by
  rw [List.any_eq_false]
  intro x hx;rw [h'.noD x hx];simp
 unfold parseT
 rw [hd.1,hd.2]
 simp only [List.takeWhile_cons,List.dropWhile_cons,h5,Bool.not_true,Bool.false_eq_true,if_false,List.append_nil,half_of h hN,hn,Option.map_some,hl,ha,half_of h' hN',hn',hl',Bool.or_self]
def hfT (pre suf:List Int) (z p q a b:Nat):List Int:=sgL pre ++ nmT z p q a b ++ sgL suf
theorem hfT_out (pre suf:List Int) {z p q a b:Nat} (hz:z < 7) (hp:p < 5) (hq:q < 5) (ha:a < 4) (hb:b < 4) :
  ∃ P N S c,outS false false (hfT pre suf z p q a b) = some (P ++ N ++ S,c,c) ∧ Hv P N S ∧ N.map (·.2) = nmT z p q a b ∧ 1 ≤ N.length:=by
 obtain ⟨_,h2,h3,_⟩:=nmT_ok hz hp hq ha hb
 obtain ⟨P,c1,h4,h5⟩:=sgL_out pre false
 obtain ⟨S,c2,h6,h7⟩:=sgL_out suf false
 refine ⟨P,(nmT z p q a b).map fun c=>(4,c),S,c2,?_,⟨h5,h7,fun x hx=>?_⟩,?_,by rw [List.length_map];exact h3⟩
 ·unfold hfT
  rw [out_append,out_append,h4]
  simp [signs_out c1 _ h2 h3,h6]
 ·obtain ⟨d,_,rfl⟩:=List.mem_map.1 hx;rfl
 ·rw [List.map_map]
  conv=>rhs;rw [← List.map_id (nmT z p q a b)]
  rfl
theorem halves (pre suf:List Int) {z p q a b:Nat} (hz:z < 7) (hp:p < 5) (hq:q < 5) (ha:a < 4) (hb:b < 4) :
  ∃ X:Pat,parseC (hfT pre suf z p q a b) = (X,0) ∧ parseC (hfT pre suf z p q a b ++ 59 :: 45 :: hfT pre suf z p q a b) = (X,0) ∧ X.npre = (3,[]) :: X.pre:=by
 obtain ⟨⟨n,hn,hl⟩,_⟩:=nmT_ok hz hp hq ha hb
 obtain ⟨P,N,S,c,ho,hv,hN,hN1⟩:=hfT_out pre suf hz hp hq ha hb
 rw [← hN] at hn
 have t1:tkn (hfT pre suf z p q a b) = some (P ++ N ++ S):=by
  unfold tkn
  rw [tok_out,ho];simp
 have hv':Hv ((3,45) :: P) N S:=⟨fun x hx=>by
  rcases List.mem_cons.1 hx with rfl | hx
  ·simp
  ·exact hv.p x hx,hv.s,hv.n⟩
 have t2:tkn (hfT pre suf z p q a b ++ 59 :: 45 :: hfT pre suf z p q a b) = some (P ++ N ++ S ++ (5,59) :: ((3,45) :: P ++ N ++ S)):=by
  unfold tkn
  rw [tok_append,ho]
  have e:tokS c c (59 :: 45 :: hfT pre suf z p q a b) = some ((5,59) :: (3,45) :: (P ++ N ++ S)):=by
   rw [tokS_cons,if_neg (by decide),if_neg (by simp),if_neg (by decide),tokS_cons,if_neg (by decide),if_neg (by decide),if_neg (by decide)]
   have:=t1
   unfold tkn at this
   rw [this];rfl
  simp [e]
 refine ⟨mkP ⟨joinT [] P,joinT [] S,n⟩ ((3,[]) :: joinT [] P) (joinT [] S),?_,?_,rfl⟩
 ·unfold parseC
  rw [t1]
  exact parse_one hv hN1 hn hl
 ·unfold parseC
  rw [t2]
  have:=parse_two hv hN1 hn hl hv' hN1 hn hl
  have ej:joinT [] ((3,45) :: P) = (3,[]) :: joinT [] P:=rfl
  rw [ej] at this
  exact this
/-! ### long numbers -/
/-! ### a literal of whatever signs -/
def dbl (l:List Int):List Int:=l.flatMap fun c=>if c = 39 then [39,39] else [c]
def lit (l:List Int):List (Int × Int):=l.map fun c=>(0,c)
theorem dbl_cons (c:Int) (r:List Int):dbl (c :: r) = (if c = 39 then [39,39] else [c]) ++ dbl r:=rfl
theorem dbl_in (l:List Int):outS true false (dbl l) = some (lit l,true,false):=by
 induction l with
 | nil=>rfl
 | cons c r ih =>
  rw [dbl_cons]
  by_cases h:c = 39
  ·subst h
   rw [if_pos rfl]
   show outS true false (39 :: 39 :: dbl r) = _
   rw [outS_cons,if_pos rfl,if_neg (by decide),outS_cons,if_pos rfl,if_pos rfl,ih];rfl
  ·rw [if_neg h]
   show outS true false (c :: dbl r) = _
   rw [outS_cons,if_neg h,if_pos (by decide),ih];rfl
theorem dbl_first (l:List Int) (h:∃ c ∈ l,c ≠ 39):outS false true (dbl l) = some (lit l,true,false):=by
 induction l with
 | nil=>obtain ⟨c,hc,_⟩:=h;cases hc
 | cons c r ih =>
  rw [dbl_cons]
  by_cases hc:c = 39
  ·subst hc
   rw [if_pos rfl]
   show outS false true (39 :: 39 :: dbl r) = _
   have hr:∃ c ∈ r,c ≠ 39:=by
    obtain ⟨d,hd,hn⟩:=h
    rcases List.mem_cons.1 hd with rfl | hd
    ·exact absurd rfl hn
    ·exact ⟨d,hd,hn⟩
   rw [outS_cons,if_pos rfl,if_pos rfl,outS_cons,if_pos rfl,if_neg (by decide),ih hr];rfl
  ·rw [if_neg hc]
   show outS false true (c :: dbl r) = _
   rw [outS_cons,if_neg hc,if_pos (by decide),dbl_in r];rfl
theorem dbl_only (l:List Int) (h:∀ c ∈ l,c = 39):outS false false (dbl l) = some (lit l,false,false):=by
 induction l with
 | nil=>rfl
 | cons c r ih =>
  obtain rfl:=h c List.mem_cons_self
  rw [dbl_cons,if_pos rfl]
  show outS false false (39 :: 39 :: dbl r) = _
  rw [outS_cons,if_pos rfl,if_neg (by decide),outS_cons,if_pos rfl,if_pos rfl,ih fun c hc=>h c (List.mem_cons_of_mem _ hc)];rfl
def fl (r:List Int):List Int:=if r.all (· == 39) = true then dbl r else 39 :: dbl r ++ [39]
theorem fl_out (r:List Int):∃ b,outS false false (fl r) = some (lit r,b,b):=by
 unfold fl
 by_cases h:r.all (· == 39) = true
 ·rw [if_pos h]
  refine ⟨false,dbl_only r fun c hc=>?_⟩
  have:=List.all_eq_true.1 h c hc
  simpa using this
 ·rw [if_neg h]
  have hx:∃ c ∈ r,c ≠ 39:=by
   simp only [List.all_eq_true,beq_iff_eq,Classical.not_forall] at h
   obtain ⟨c,hc,hn⟩:=h
   exact ⟨c,hc,hn⟩
  refine ⟨true,?_⟩
  rw [List.cons_append,outS_cons,if_pos rfl,if_neg (by decide),out_append,dbl_first r hx]
  simp [outS]
def spc (c:Int):Bool:=c == 39 || kindC c != 0
def prS:List Int → List Int → List Int
 | run,[]=>fl run
 | run,c :: r=>if spc c = true then prS (run ++ [c]) r else fl run ++ c :: prS [] r
theorem prS_out (l:List Int):∀ run,∃ b,outS false false (prS run l) = some (lit (run ++ l),b,b):=by
 induction l with
 | nil=>intro run;rw [List.append_nil];exact fl_out run
 | cons c r ih =>
  intro run
  unfold prS
  by_cases h:spc c = true
  ·rw [if_pos h]
   obtain ⟨b,hb⟩:=ih (run ++ [c])
   exact ⟨b,by rw [hb,List.append_assoc];rfl⟩
  ·rw [if_neg h]
   have hk:c ≠ 39 ∧ kindC c = 0:=by simpa [spc] using h
   obtain ⟨b,hb⟩:=fl_out run
   obtain ⟨d,hd⟩:=ih []
   refine ⟨d,?_⟩
   rw [out_append,hb]
   simp only [Option.bind_some]
   rw [outS_cons,if_neg hk.1,if_neg (by simp),hk.2,if_neg (by decide),hd]
   simp [lit]
theorem okT_lit (l:List Int):okT (lit l):=fun x hx=>by
 obtain ⟨c,_,rfl⟩:=List.mem_map.1 hx
 simp
def nm1:Nm:=⟨0,0,0,0,0,false⟩
theorem num_one:num [35] = some nm1:=by decide +kernel
def litP (l:List Int):Pat:=mkP ⟨joinT [] (lit l),[],nm1⟩ ((3,[]) :: joinT [] (lit l)) []
theorem parse_lit {cs l:List Int} (h:∃ b,outS false false cs = some (lit l,b,b)):parseC (cs ++ [35]) = (litP l,0):=by
 obtain ⟨b,hb⟩:=h
 have t1:tkn (cs ++ [35]) = some (lit l ++ [(4,35)] ++ []):=by
  unfold tkn
  rw [tok_append,hb]
  have:tokS b b [35] = some [(4,35)]:=by
   rw [tokS_cons,if_neg (by decide),if_neg (by simp),if_neg (by decide)];rfl
  simp [this]
 unfold parseC
 rw [t1]
 exact parse_one (N:=[(4,35)]) ⟨okT_lit l,fun x hx=>absurd hx List.not_mem_nil,fun x hx=>by simp at hx;rw [hx]⟩ (by simp) num_one rfl
theorem quoted (l:List Int) (h:∃ c ∈ l,c ≠ 39):parseC (39 :: dbl l ++ [39] ++ [35]) = (litP l,0):=by
 refine parse_lit ⟨true,?_⟩
 rw [List.cons_append,outS_cons,if_pos rfl,if_neg (by decide),out_append,dbl_first l h]
 simp [outS]
theorem printed (l:List Int):parseC (prS [] l ++ [35]) = (litP l,0):=parse_lit (prS_out l [])
end Pt
end Go.Proofs.YtghfdapfnoeanaaGreatDoor
namespace Go.Proofs.YtghfdapfnoeanaaGreatDoor
open Go.RowKit Um
namespace Ur
def few (s:ByteArray) (n:Nat):ByteArray:=if n < s.size then s.extract 0 n else s
theorem convN (w:World) (xs:List Int) (n:Nat) (hn:xs.length = n) :
  (convert 156 9 (.slice (some ⟨w.heap.size,0,none⟩) n n)).run Tryz.prog (w.alloc (.cells (xs.map (Value.int .u8)).toArray 5)) = .ok (.string (strOfNums xs)) (w.alloc (.cells (xs.map (Value.int .u8)).toArray 5)):=by
 refine run_convert_bytes_arg _ 156 5 Tryz.underlying156 Tryz.underlying5 w.heap.size 0 n n xs hn ?_ 9 Tryz.underlying9
 intro i hi
 rw [World.cell?_alloc_at _ _ _ _ rfl,Nat.zero_add]
 simp only [List.getElem?_toArray,List.getElem?_map,List.getD_eq_getElem?_getD]
 rw [List.getElem?_eq_getElem (by omega)];rfl
theorem strOfNums_enc {xs:List Int} {c:Int} (hv:vld c = true) (h:xs.map (fun n=>UInt8.ofNat n.toNat) = enc c):strOfNums xs = encB c:=by
 apply ba_ext
 rw [strOfNums_data,encB_list c hv,h]
theorem ofNat_congr {a b:Nat} (h:a = b):UInt8.ofNat a = UInt8.ofNat b:=by rw [h]
set_option maxHeartbeats 400000 in
theorem encode_any (c:Int) (w:World) :
  Calls Tryz.prog 62 #[.int .i64 c] w fun e w'=>e = .returned (.string (encB c)) ∧ Q w w':=by
 by_cases hv:vld c = true
 ·have hb:=(vld_iff c).1 hv
  have hm:=fun w=>may_any c w
  rw [hv] at hm
  have HM:=Lib.hid hm
  have HV:=Lib.hid hv
  clear hm hv
  have hc1:=fun (x:Int)=>convN w [x] 1 rfl
  have hc2:=fun (x y:Int)=>convN w [x,y] 2 rfl
  have hc3:=fun (x y z:Int)=>convN w [x,y,z] 3 rfl
  have hc4:=fun (x y z u:Int)=>convN w [x,y,z,u] 4 rfl
  simp only [List.map_cons,List.map_nil] at hc1 hc2 hc3 hc4
  by_cases h1:c < 128
  ·have HE:=Lib.hid (enc1 c hb.1 h1)
   go_enter Tryz.func62,Tryz.ntmps62
   go_wp2_with (go_at_call 116;refine (HM.out _).mono ?_;rintro e w' ⟨rfl,rfl⟩)
   go_ret
   refine ⟨ret_str (strOfNums_enc HV.out ?_),(Q.refl _).alloc _⟩
   rw [HE.out];rfl
  ·by_cases h2:c < 2048
   ·have HE:=Lib.hid (enc2 c (by omega) h2)
    go_enter Tryz.func62,Tryz.ntmps62
    go_wp2_with (go_at_call 116;refine (HM.out _).mono ?_;rintro e w' ⟨rfl,rfl⟩)
    go_ret
    refine ⟨ret_str (strOfNums_enc HV.out ?_),(Q.refl _).alloc _⟩
    rw [HE.out]
    simp only [List.map_cons,List.map_nil,List.cons.injEq,and_true]
    exact ⟨ofNat_congr (by omega),ofNat_congr (by omega)⟩
   ·by_cases h3:c < 65536
    ·have HE:=Lib.hid (enc3 c (by omega) h3 HV.out)
     go_enter Tryz.func62,Tryz.ntmps62
     go_wp2_with (go_at_call 116;refine (HM.out _).mono ?_;rintro e w' ⟨rfl,rfl⟩)
     go_ret
     refine ⟨ret_str (strOfNums_enc HV.out ?_),(Q.refl _).alloc _⟩
     rw [HE.out]
     simp only [List.map_cons,List.map_nil,List.cons.injEq,and_true]
     exact ⟨ofNat_congr (by omega),ofNat_congr (by omega),ofNat_congr (by omega)⟩
    ·have HE:=Lib.hid (enc4 c (by omega) HV.out)
     go_enter Tryz.func62,Tryz.ntmps62
     go_wp2_with (go_at_call 116;refine (HM.out _).mono ?_;rintro e w' ⟨rfl,rfl⟩)
     go_ret
     refine ⟨ret_str (strOfNums_enc HV.out ?_),(Q.refl _).alloc _⟩
     rw [HE.out]
     simp only [List.map_cons,List.map_nil,List.cons.injEq,and_true]
     exact ⟨ofNat_congr (by omega),ofNat_congr (by omega),ofNat_congr (by omega),ofNat_congr (by omega)⟩
 ·have hv:vld c = false:=by simpa using hv
  have HE:Hid (encB c = ⟨#[]⟩):=by unfold encB;exact if_neg (by simp [hv])
  have hm:=fun w=>may_any c w
  rw [hv] at hm
  have HM:=Lib.hid hm
  clear hm hv
  go_enter Tryz.func62,Tryz.ntmps62
  go_wp2_with (go_at_call 116;refine (HM.out _).mono ?_;rintro e w' ⟨rfl,rfl⟩)
  go_ret
  rw [HE.out]
  exact ⟨rfl,Q.refl _⟩
theorem u8b (a:UInt8):0 ≤ (a.toNat:Int) ∧ (a.toNat:Int) ≤ 255:=by have:=a.toNat_lt;omega
set_option maxHeartbeats 400000 in
theorem value1 (a:UInt8) (w:World) :
  Calls Tryz.prog 120 #[.string ⟨#[a]⟩] w fun e w'=>e = .returned (.int .i64 ((a.toNat:Int))) ∧ w = w':=by
 have h0:0 ≤ (((⟨#[a]⟩:ByteArray)[0]'(by show 0 < 1;omega)).toNat:Int) ∧ (((⟨#[a]⟩:ByteArray)[0]'(by show 0 < 1;omega)).toNat:Int) ≤ 255:=u8b a
 go_enter Tryz.func120,Tryz.ntmps120
 go_wp2
 refine wp_loop_rounds 1 ?_
 rw [rounds_succ]
 go_wp2
 go_ret
 exact ⟨rfl,rfl⟩
set_option maxHeartbeats 400000 in
theorem value2 (a b:UInt8) (w:World) :
  Calls Tryz.prog 120 #[.string ⟨#[a,b]⟩] w fun e w'=>e = .returned (.int .i64 (((a.toNat:Int) - 192) * 64 + (b.toNat:Int) - 128)) ∧ w = w':=by
 have h0:0 ≤ (((⟨#[a,b]⟩:ByteArray)[0]'(by show 0 < 2;omega)).toNat:Int) ∧ (((⟨#[a,b]⟩:ByteArray)[0]'(by show 0 < 2;omega)).toNat:Int) ≤ 255:=u8b a
 have h1:0 ≤ (((⟨#[a,b]⟩:ByteArray)[1]'(by show 1 < 2;omega)).toNat:Int) ∧ (((⟨#[a,b]⟩:ByteArray)[1]'(by show 1 < 2;omega)).toNat:Int) ≤ 255:=u8b b
 go_enter Tryz.func120,Tryz.ntmps120
 go_wp2
 refine wp_loop_rounds 2 ?_
 rw [rounds_succ]
 go_wp2
 rw [rounds_succ]
 go_wp2
 go_ret
 exact ⟨rfl,rfl⟩
set_option maxHeartbeats 400000 in
theorem value3 (a b c:UInt8) (w:World) :
  Calls Tryz.prog 120 #[.string ⟨#[a,b,c]⟩] w fun e w'=>e = .returned (.int .i64 ((((a.toNat:Int) - 224) * 64 + (b.toNat:Int) - 128) * 64 + (c.toNat:Int) - 128)) ∧ w = w':=by
 have h0:0 ≤ (((⟨#[a,b,c]⟩:ByteArray)[0]'(by show 0 < 3;omega)).toNat:Int) ∧ (((⟨#[a,b,c]⟩:ByteArray)[0]'(by show 0 < 3;omega)).toNat:Int) ≤ 255:=u8b a
 have h1:0 ≤ (((⟨#[a,b,c]⟩:ByteArray)[1]'(by show 1 < 3;omega)).toNat:Int) ∧ (((⟨#[a,b,c]⟩:ByteArray)[1]'(by show 1 < 3;omega)).toNat:Int) ≤ 255:=u8b b
 have h2:0 ≤ (((⟨#[a,b,c]⟩:ByteArray)[2]'(by show 2 < 3;omega)).toNat:Int) ∧ (((⟨#[a,b,c]⟩:ByteArray)[2]'(by show 2 < 3;omega)).toNat:Int) ≤ 255:=u8b c
 go_enter Tryz.func120,Tryz.ntmps120
 go_wp2
 refine wp_loop_rounds 3 ?_
 rw [rounds_succ]
 go_wp2
 rw [rounds_succ]
 go_wp2
 rw [rounds_succ]
 go_wp2
 go_ret
 exact ⟨rfl,rfl⟩
set_option maxHeartbeats 400000 in
theorem value4 (a b c d:UInt8) (w:World) :
  Calls Tryz.prog 120 #[.string ⟨#[a,b,c,d]⟩] w fun e w'=>e = .returned (.int .i64 (((((a.toNat:Int) - 240) * 64 + (b.toNat:Int) - 128) * 64 + (c.toNat:Int) - 128) * 64 + (d.toNat:Int) - 128)) ∧ w = w':=by
 have h0:0 ≤ (((⟨#[a,b,c,d]⟩:ByteArray)[0]'(by show 0 < 4;omega)).toNat:Int) ∧ (((⟨#[a,b,c,d]⟩:ByteArray)[0]'(by show 0 < 4;omega)).toNat:Int) ≤ 255:=u8b a
 have h1:0 ≤ (((⟨#[a,b,c,d]⟩:ByteArray)[1]'(by show 1 < 4;omega)).toNat:Int) ∧ (((⟨#[a,b,c,d]⟩:ByteArray)[1]'(by show 1 < 4;omega)).toNat:Int) ≤ 255:=u8b b
 have h2:0 ≤ (((⟨#[a,b,c,d]⟩:ByteArray)[2]'(by show 2 < 4;omega)).toNat:Int) ∧ (((⟨#[a,b,c,d]⟩:ByteArray)[2]'(by show 2 < 4;omega)).toNat:Int) ≤ 255:=u8b c
 have h3:0 ≤ (((⟨#[a,b,c,d]⟩:ByteArray)[3]'(by show 3 < 4;omega)).toNat:Int) ∧ (((⟨#[a,b,c,d]⟩:ByteArray)[3]'(by show 3 < 4;omega)).toNat:Int) ≤ 255:=u8b d
 go_enter Tryz.func120,Tryz.ntmps120
 go_wp2
 refine wp_loop_rounds 4 ?_
 rw [rounds_succ]
 go_wp2
 rw [rounds_succ]
 go_wp2
 rw [rounds_succ]
 go_wp2
 rw [rounds_succ]
 go_wp2
 go_ret
 exact ⟨rfl,rfl⟩
theorem value_any (s:ByteArray) (w:World) (h1:1 ≤ s.size) (h4:s.size ≤ 4) :
  Calls Tryz.prog 120 #[.string s] w fun e w'=>e = .returned (.int .i64 (val s.data.toList)) ∧ w = w':=by
 obtain ⟨⟨l⟩⟩:=s
 match l,h1,h4 with
 | [a],_,_=>exact value1 a w
 | [a,b],_,_=>exact value2 a b w
 | [a,b,c],_,_=>exact value3 a b c w
 | [a,b,c,d],_,_=>exact value4 a b c d w
 | [],h1,_=>exact absurd h1 (by show ¬ 1 ≤ 0;omega)
 | a :: b :: c :: d :: e :: r,_,h4=>exact absurd h4 (by show ¬ r.length + 5 ≤ 4;omega)
theorem extract_take (s:ByteArray) (k:Nat):(s.extract 0 k).data.toList = s.data.toList.take k:=by
 rw [ByteArray.data_extract,Array.toList_extract,List.extract_eq_take_drop]
 simp
theorem toList_eq (s:ByteArray):s.toList = s.data.toList:=ByteArray.toList_eq s
set_option maxHeartbeats 800000 in
theorem first_any (s:ByteArray) (w:World) (hm:s.size ≤ maxLen) :
  Calls Tryz.prog 66 #[.string s] w fun e w'=>e = .returned (.tuple #[.int .i64 (fst3 s.data.toList).1,.int .i64 (fst3 s.data.toList).2.1,.bool (fst3 s.data.toList).2.2]) ∧ Q w w':=by
 unfold maxLen at hm
 have hsl:=size_list s
 by_cases hs:s.size = 0
 ·have hl:s.data.toList = []:=by apply List.eq_nil_of_length_eq_zero;omega
  have HF:Hid (fst3 s.data.toList = (0,0,false)):=by rw [hl];rfl
  have h1:s.toList.isEmpty = true:=by rw [toList_eq,hl];rfl
  clear hl hs hsl
  go_enter Tryz.func66,Tryz.ntmps66
  go_wp2_with fail
  go_ret3
  rw [HF.out]
  exact ⟨rfl,Q.refl _⟩
 ·have hl:s.data.toList ≠ []:=by intro h;apply hs;have:=congrArg List.length h;simpa using this
  have h1:s.toList.isEmpty = false:=by rw [toList_eq];simpa using hl
  have HL:=Lib.hid hsl
  clear hsl
  go_enter Tryz.func66,Tryz.ntmps66
  go_wp2_with fail
  go_loopw [5] (fun n wr=>∃ k:Nat,n = .int .i64 k ∧ 1 ≤ k ∧ k ≤ 5 ∧ k ≤ s.size + 1 ∧ Q w wr ∧ noFront s.data.toList k) (fun n _=>5 - (intOf n).toNat)
  case atStart=>exact ⟨1,rfl,by omega,by omega,by omega,Q.refl _,noFront_start _⟩
  case round =>
   obtain ⟨k,rfl,hk1,hk5,hks,hq,hno⟩:=hrel
   by_cases h4:k ≤ 4
   ·by_cases h5:k ≤ s.size
    ·have hV:=Lib.hid (fun w=>value_any (s.extract 0 k) w (by rw [ByteArray.size_extract];omega) (by rw [ByteArray.size_extract];omega))
     have hst:=Lib.hid (noFront_step _ k hno)
     have hfo:=Lib.hid (front_found s.data.toList k hk1 (by rw [HL.out];exact h5))
     go_wp2_with fail
     refine (hV.out _).mono ?_
     rintro e w1 ⟨rfl,rfl⟩
     rw [extract_take]
     go_wp2_with fail
     go_region_with (go_at_call 62;refine (encode_any _ _).mono ?_;rintro e w1 ⟨rfl,hq1⟩)
     all_goals go_wp2_with fail
     ·have hb:((encB (val (List.take k s.data.toList))).toList == (s.extract 0 k).toList) = true:=by assumption
      have hb:=beq_iff_eq.1 hb
      rw [toList_eq,toList_eq,extract_take] at hb
      have hf:=hfo.out hb
      go_ret3
      rw [hf]
      exact ⟨rfl,hq.drew.trans hq1⟩
     ·have hb:((encB (val (List.take k s.data.toList))).toList == (s.extract 0 k).toList) = false:=by assumption
      have hb:=beq_eq_false_iff_ne.1 hb
      rw [toList_eq,toList_eq,extract_take] at hb
      exact ⟨⟨k + 1,by go_num,by omega,by omega,by omega,hq.drew.trans hq1,hst.out hb⟩,by simp [intOf];omega⟩
    ·have HF:Hid (fst3 s.data.toList = (65533,1,false)):=Lib.hid (noFront_end _ k hl hno (.inr (by rw [HL.out];omega)))
     go_wp2_with fail
     go_ret3
     rw [HF.out]
     exact ⟨rfl,hq⟩
   ·have HF:Hid (fst3 s.data.toList = (65533,1,false)):=Lib.hid (noFront_end _ k hl hno (.inl (by omega)))
    go_wp2_with fail
    go_ret3
    rw [HF.out]
    exact ⟨rfl,hq⟩
theorem extract_list (s:ByteArray) (pos:Nat):(s.extract pos s.size).data.toList = s.data.toList.drop pos:=by
 rw [ByteArray.data_extract,Array.toList_extract]
 have:s.size = s.data.toList.length:=(size_list s).symm
 rw [List.extract_eq_take_drop,this,List.take_of_length_le (by simp)]
set_option maxHeartbeats 800000 in
theorem all_any (s:ByteArray) (w:World) (hm:s.size ≤ 1073741824) :
  Calls Tryz.prog 40 #[.string s] w fun e w'=>∃ v u,e = .returned (.tuple #[v,u,.bool (okL s.data.toList)]) ∧ Own w' w.heap.size v (allL s.data.toList) ∧ Own w' w.heap.size u (startsL s.data.toList) ∧ Apart v u ∧ Q w w':=by
 have hml:=marks_length s.data.toList
 rw [size_list] at hml
 have HML:=Lib.hid hml
 clear hml
 go_enter Tryz.func40,Tryz.ntmps40
 go_wp2_with fail
 go_loopw [5,6,7,8] (fun v u b at' wr=>∃ (pos:Nat) (acc sta:List Int) (ok:Bool),at' = .int .i64 pos ∧ b = .bool ok ∧ pos ≤ s.size ∧ Own wr w.heap.size v acc ∧ Own wr w.heap.size u sta ∧ Apart v u ∧ Q w wr ∧
   acc ++ allL (s.data.toList.drop pos) = allL s.data.toList ∧ sta ++ startsF pos (marks (s.data.toList.drop pos)) = startsL s.data.toList ∧ (ok && (marks (s.data.toList.drop pos)).all (·.2.2)) = okL s.data.toList)
  (fun _ _ _ at' _=>s.size - (intOf at').toNat)
 case atStart=>exact ⟨0,[],[],true,rfl,rfl,by omega,Own.nil _ _,Own.nil _ _,Apart.nilL _,Q.refl _,by simp,by simp [startsL],by simp [okL]⟩
 case round =>
  obtain ⟨pos,acc,sta,ok,rfl,rfl,hps,hv,hu,hap,hq,ha,hs,ho⟩:=hrel
  have hal:acc.length ≤ s.size:=by
   have h1:=congrArg List.length ha
   simp only [allL,List.length_append,List.length_map] at h1
   have:=HML.out;omega
  have hsl:sta.length ≤ s.size:=by
   have h1:=congrArg List.length hs
   simp only [startsL,List.length_append,startsF_length] at h1
   have:=HML.out;omega
  have hsq:=hq.le
  have HA:=Lib.hid ha
  have HS:=Lib.hid hs
  have HO:=Lib.hid ho
  clear ha hs ho
  by_cases hp:pos < s.size
  ·have hwd:=mark_at_n s pos hp
   have hF:∀ w,Calls Tryz.prog 66 #[.string (s.extract pos s.size)] w _:=fun w=>first_any (s.extract pos s.size) w (by rw [ByteArray.size_extract];unfold maxLen;omega)
   rw [extract_list] at hF
   have hf3:fst3 (s.data.toList.drop pos) = ((mrk (s.data.toList.drop pos)).1,((mrk (s.data.toList.drop pos)).2.1:Int),(mrk (s.data.toList.drop pos)).2.2):=by unfold fst3;rw [if_neg (drop_ne hp)]
   rw [hf3] at hF
   simp only at hF
   have hm1:=marks_at s pos hp
   have HM:=Lib.hid hm1
   have HF:=Lib.hid hF
   clear hF hf3 hm1
   go_wp2_with fail
   refine (HF.out _).mono ?_
   rintro e w1 ⟨rfl,hq1⟩
   have hv1:=hv.q hq1
   have hu1:=hu.q hq1
   have hqw1:=hq.trans hq1
   have hsq1:=hqw1.le
   go_wp2_with (at_builtin;refine push_int hv1 rfl _ _ rfl _ (by rfl) (by rfl) (by omega) hsq1 ?_)
   intro v2 w2 hv2 hg2 hat2
   have hu2:=hu1.other hg2 hap
   have hap2:=hap.push hu1 hat2
   have hqw2:=hqw1.grown hg2 (fun g h=>(hv1.lt g h).1)
   have hsq2:=hqw2.le
   go_wp2_with (at_builtin;refine push_int hu2 rfl _ _ rfl _ (by rfl) (by rfl) (by omega) hsq2 ?_)
   intro u3 w3 hu3 hg3 hat3
   have hv3:=hv2.other hg3 hap2.symm
   have hap3:=(hap2.symm.push hv2 hat3).symm
   have hqw3:=hqw2.grown hg3 (fun g h=>(hu2.lt g h).1)
   have hfin:(∃ (pos':Nat) (acc' sta':List Int) (ok':Bool),Value.int .i64 ((pos:Int) + ((mrk (s.data.toList.drop pos)).2.1:Int)) = .int .i64 pos' ∧ Value.bool (ok && (mrk (s.data.toList.drop pos)).2.2) = .bool ok' ∧ pos' ≤ s.size ∧ Own w3 w.heap.size v2 acc' ∧ Own w3 w.heap.size u3 sta' ∧ Apart v2 u3 ∧ Q w w3 ∧
     acc' ++ allL (s.data.toList.drop pos') = allL s.data.toList ∧ sta' ++ startsF pos' (marks (s.data.toList.drop pos')) = startsL s.data.toList ∧ (ok' && (marks (s.data.toList.drop pos')).all (·.2.2)) = okL s.data.toList):=by
    refine ⟨pos + (mrk (s.data.toList.drop pos)).2.1,_,_,_,by rw [Int.natCast_add],rfl,hwd.2,hv3,hu3,hap3,hqw3,?_,?_,?_⟩
    ·rw [← HA.out];unfold allL;conv=>rhs;rw [HM.out]
     simp
    ·rw [← HS.out,HM.out];simp [startsF]
    ·rw [← HO.out,HM.out,List.all_cons,Bool.and_assoc]
   have HFin:=Lib.hid hfin
   clear hfin
   cases ok
   all_goals
    go_wp2_with fail
    exact ⟨HFin.out,by simp [intOf];omega⟩
  ·have hpe:pos = s.size:=by omega
   subst hpe
   go_wp2_with (at_builtin;refine push_int hu rfl _ _ rfl _ (by rfl) (by rfl) (by omega) hsq ?_)
   intro u3 w3 hu3 hg3 hat3
   have hv3:=hv.other hg3 hap.symm
   have hap3:=(hap.symm.push hv hat3).symm
   have hqw3:=hq.grown hg3 (fun g h=>(hu.lt g h).1)
   go_wp2_with fail
   go_ret3
   have h1:=HA.out;have h2:=HS.out;have h3:=HO.out
   unfold allL at h1
   rw [marks_end s s.size (by omega)] at h1 h2 h3
   rw [List.map_nil,List.append_nil] at h1
   refine ⟨_,_,?_,?_,?_,hap3,hqw3⟩
   ·rw [← h3,List.all_nil,Bool.and_true];rfl
   ·unfold allL;rw [← h1];exact hv3
   ·rw [← h2];exact hu3
set_option maxHeartbeats 800000 in
theorem same_any (va vb:Value) (xs ys:List Int) (w:World) (ha:Lst w va xs) (hb:Lst w vb ys) (hx:xs.length < 1099511627776) (hy:ys.length < 1099511627776) :
  Calls Tryz.prog 12 #[va,vb] w fun e w'=>e = .returned (.bool (decide (xs = ys))) ∧ Q w w':=by
 by_cases hl:xs.length = ys.length
 ·by_cases h0:xs.length = 0
  ·have hx0:xs = []:=List.eq_nil_of_length_eq_zero h0
   have hy0:ys = []:=List.eq_nil_of_length_eq_zero (by omega)
   subst hx0;subst hy0
   obtain ⟨a,c,rfl⟩:=ha.shape
   obtain ⟨b,d,rfl⟩:=hb.shape
   clear ha hb hl h0 hx hy
   go_enter Tryz.func12,Tryz.ntmps12
   go_wp2
   refine wp_loop_rounds 1 ?_
   rw [rounds_succ]
   go_wp2
   go_ret
   exact ⟨rfl,Q.refl _⟩
  ·rcases ha with ⟨rfl,_⟩ | ⟨g,off,cap,rfl,hg,_,_,hca⟩
   ·exact absurd rfl h0
   rcases hb with ⟨rfl,_⟩ | ⟨g2,off2,cap2,rfl,hg2,_,_,hcb⟩
   ·exact absurd hl h0
   have HL:=Lib.hid hl
   have hle:((xs.length:Int) == (ys.length:Int)) = true:=by rw [hl];simp
   have hne:((xs.length:Int) != (ys.length:Int)) = false:=by rw [hl];simp
   clear hl h0
   go_enter Tryz.func12,Tryz.ntmps12
   go_wp2
   go_loopw [5] (fun i wr=>∃ k:Nat,i = .int .i64 k ∧ k ≤ xs.length ∧ Q w wr ∧ xs.take k = ys.take k) (fun i _=>xs.length - (intOf i).toNat)
   case atStart=>exact ⟨0,rfl,by omega,Q.refl _,by simp⟩
   case round =>
    obtain ⟨k,rfl,hk,hq,he⟩:=hrel
    have HE:=Lib.hid he
    clear he
    by_cases hlt:k < xs.length
    ·have c1:wr.cell? ⟨g,off + k,none⟩ = some (.int .i64 (xs.getD k 0)):=(World.cell?_of_block (w:=w) (hq.block hg)).trans (hca k hlt)
     have c2:wr.cell? ⟨g2,off2 + k,none⟩ = some (.int .i64 (ys.getD k 0)):=(World.cell?_of_block (w:=w) (hq.block hg2)).trans (hcb k (by rw [← HL.out];exact hlt))
     have hky:(k:Int) < (ys.length:Int):=by rw [← HL.out];omega
     have hkx:(k:Int) < (xs.length:Int):=by omega
     generalize hgx:xs.getD k 0 = p at c1
     generalize hgy:ys.getD k 0 = q at c2
     have HX:=Lib.hid hgx
     have HY:=Lib.hid hgy
     clear hgx hgy
     have hsx:xs.take (k + 1) = xs.take k ++ [p]:=by
      rw [List.take_succ_eq_append_getElem hlt,← HX.out,List.getD_eq_getElem?_getD,List.getElem?_eq_getElem hlt];rfl
     have hly:k < ys.length:=by rw [← HL.out];exact hlt
     have hsy:ys.take (k + 1) = ys.take k ++ [q]:=by
      rw [List.take_succ_eq_append_getElem hly,← HY.out,List.getD_eq_getElem?_getD,List.getElem?_eq_getElem hly];rfl
     have HSX:=Lib.hid hsx
     have HSY:=Lib.hid hsy
     clear hsx hsy
     by_cases hpq:p = q
     ·have ht:(p != q) = false:=by rw [hpq];simp
      have HP:=Lib.hid hpq
      clear hpq
      go_wp2_with fail
      go_quiet (fail)
      go_wp2_with fail
      exact ⟨⟨k + 1,by go_num,by omega,hq.drewN _,by rw [HSX.out,HSY.out,HE.out,HP.out]⟩,by simp [intOf];omega⟩
     ·have ht:(p != q) = true:=by rw [bne_iff_ne];exact hpq
      have HF:Hid (decide (xs = ys) = false):=Lib.hid (decide_eq_false (fun h=>hpq (by
       have h1:=HX.out;have h2:=HY.out
       rw [← h1,← h2,h])))
      clear hpq
      go_wp2_with fail
      go_quiet (fail)
      go_wp2_with fail
      go_ret
      rw [HF.out]
      exact ⟨rfl,hq.drewN _⟩
    ·have HF:Hid (decide (xs = ys) = true):=Lib.hid (decide_eq_true (by
      have h1:=HE.out;have h2:=HL.out
      rw [List.take_of_length_le (by omega),List.take_of_length_le (by omega)] at h1
      exact h1))
     go_wp2_with fail
     go_ret
     rw [HF.out]
     exact ⟨rfl,hq⟩
 ·have hne:((xs.length:Int) == (ys.length:Int)) = false:=by rw [beq_eq_false_iff_ne];omega
  have hne2:((xs.length:Int) != (ys.length:Int)) = true:=by rw [bne_iff_ne];omega
  have HF:Hid (decide (xs = ys) = false):=Lib.hid (decide_eq_false (fun h=>hl (by rw [h])))
  obtain ⟨a,c,rfl⟩:=ha.shape
  obtain ⟨b,d,rfl⟩:=hb.shape
  clear ha hb hl
  go_enter Tryz.func12,Tryz.ntmps12
  go_wp2
  go_ret
  rw [HF.out]
  exact ⟨rfl,Q.refl _⟩
end Ur
end Go.Proofs.YtghfdapfnoeanaaGreatDoor
namespace Go.Proofs.YtghfdapfnoeanaaGreatDoor.Gm
open Um Cm
structure St where
 k:Int
 d:Bool
 s:Bool
 o:Bool
def st0:St:=⟨-1,false,false,false⟩
def alB (k:Int):Bool:=decide (k = 3) || decide (k = 1) || decide (k = 2)
def sylB (a k:Int):Bool :=
 if a = 9 then decide (k = 9) || decide (k = 10) || decide (k = 12) || decide (k = 13)
 else if a = 12 ∨ a = 10 then decide (k = 10) || decide (k = 11)
 else if a = 13 ∨ a = 11 then decide (k = 11) else false
def pairB (a k:Int):Bool :=
 if a = -1 then false else if a = 1 ∧ k = 2 then true else if alB a = true ∨ alB k = true then false
 else if k = 4 ∨ k = 5 ∨ k = 8 then true else if a = 7 then true else sylB a k
def stp (t:St) (k:Int):St:=⟨k,decide (k = 14) || (t.d && decide (k = 4)),t.d && decide (k = 5),decide (k = 6) && !t.o⟩
def jn (t:St) (k:Int):Bool:=pairB t.k k || (t.s && decide (k = 14)) || (t.o && decide (k = 6))
def stR:List Nat → St
 | []=>st0
 | k :: r=>stp (stR r) k
def stL (l:List Int):St:=l.foldl (fun t c=>stp t (cls c)) st0
theorem stL_snoc (l:List Int) (c:Int):stL (l ++ [c]) = stp (stL l) (cls c):=by simp [stL]
theorem stL_rev (l:List Int):stL l = stR (l.map cls).reverse:=by
 have h:∀ r:List Int,stL r.reverse = stR (r.map cls):=by
  intro r
  induction r with
  | nil=>rfl
  | cons c r ih=>rw [List.reverse_cons,stL_snoc,ih];rfl
 have:=h l.reverse
 rw [List.reverse_reverse] at this
 rw [this,List.map_reverse]
theorem stR_d (r:List Nat):(stR r).d = decide ((r.dropWhile (· == 4)).head? = some 14):=by
 induction r with
 | nil=>rfl
 | cons k r ih =>
  show (decide ((k:Int) = 14) || ((stR r).d && decide ((k:Int) = 4))) = _
  rw [ih]
  by_cases h:k = 4
  ·subst h;simp
  ·have h1:((k:Int) = 4) = False:=by simp;omega
   rw [List.dropWhile_cons_of_neg (by simpa using h)]
   simp only [h1,decide_false,Bool.and_false,Bool.or_false,List.head?_cons,Option.some.injEq]
   rw [decide_eq_decide];omega
theorem stR_o (r:List Nat):(stR r).o = decide ((r.takeWhile (· == 6)).length % 2 = 1):=by
 induction r with
 | nil=>rfl
 | cons k r ih =>
  show (decide ((k:Int) = 6) && !(stR r).o) = _
  rw [ih]
  by_cases h:k = 6
  ·subst h
   rw [List.takeWhile_cons_of_pos (by simp),List.length_cons]
   rw [show decide (((6:Nat):Int) = 6) = true from rfl,Bool.true_and]
   rw [Bool.eq_iff_iff];simp;omega
  ·have h1:((k:Int) = 6) = False:=by simp;omega
   rw [List.takeWhile_cons_of_neg (by simpa using h)]
   simp [h1]
def refR:List Nat → Int → Bool
 | [],_=>false
 | a :: r,k=>if a = 1 ∧ k = 2 then true else if alB a = true ∨ alB k = true then false
  else if sylB a k = true ∨ k = 4 ∨ k = 5 ∨ k = 8 ∨ a = 7 then true
  else if a = 5 ∧ k = 14 then decide ((r.dropWhile (· == 4)).head? = some 14)
  else decide (k = 6) && decide (((a :: r).takeWhile (· == 6)).length % 2 = 1)
theorem stR_inv (r:List Nat):((stR r).d = true → (stR r).k = 14 ∨ (stR r).k = 4) ∧ ((stR r).s = true → (stR r).k = 5) ∧ ((stR r).o = true → (stR r).k = 6):=by
 cases r with
 | nil=>simp [stR,st0]
 | cons k r =>
  refine ⟨fun h=>?_,fun h=>?_,fun h=>?_⟩
  ·have h':(decide ((k:Int) = 14) || ((stR r).d && decide ((k:Int) = 4))) = true:=h
   show (k:Int) = 14 ∨ (k:Int) = 4
   simp at h';omega
  ·have h':((stR r).d && decide ((k:Int) = 5)) = true:=h
   show (k:Int) = 5
   simp at h';omega
  ·have h':(decide ((k:Int) = 6) && !(stR r).o) = true:=h
   show (k:Int) = 6
   simp at h';omega
theorem jn_ref (r:List Nat) (k:Int):jn (stR r) k = refR r k:=by
 cases r with
 | nil=>simp [jn,stR,st0,refR,pairB]
 | cons a r =>
  have hk:(stR (a :: r)).k = (a:Int):=rfl
  have hs:(stR (a :: r)).s = ((stR r).d && decide ((a:Int) = 5)):=rfl
  have ho:=stR_o (a :: r)
  have hi:=(stR_inv (a :: r)).2.2
  have hd:=stR_d r
  unfold jn
  rw [hk,hs]
  unfold refR pairB
  rw [if_neg (by omega)]
  rw [hk] at hi
  have e1:((a:Int) = 1 ∧ k = 2) = (a = 1 ∧ k = 2):=by rw [eq_iff_iff];omega
  simp only [e1]
  by_cases c1:a = 1 ∧ k = 2
  ·rw [if_pos c1,if_pos c1];rfl
  ·rw [if_neg c1,if_neg c1]
   by_cases c2:alB (a:Int) = true ∨ alB k = true
   ·rw [if_pos c2,if_pos c2]
    rcases c2 with c2 | c2
    ·have h5:¬ ((a:Int) = 5):=by intro e;rw [e] at c2;revert c2;decide
     have h6:¬ (a:Int) = 6:=by intro e;rw [e] at c2;revert c2;decide
     have:(stR (a :: r)).o = false:=by
      cases h:(stR (a :: r)).o
      ·rfl
      ·exact absurd (hi h) h6
     rw [this];simp [h5]
    ·have h5:¬ (k = 14):=by intro e;rw [e] at c2;revert c2;decide
     have h6:¬ (k = 6):=by intro e;rw [e] at c2;revert c2;decide
     simp [h5,h6]
   ·rw [if_neg c2,if_neg c2]
    by_cases c3:k = 4 ∨ k = 5 ∨ k = 8
    ·rw [if_pos c3,if_pos (.inr (by omega))];rfl
    ·rw [if_neg c3]
     by_cases c4:(a:Int) = 7
     ·rw [if_pos c4,if_pos (.inr (by omega))];rfl
     ·rw [if_neg c4]
      by_cases c5:sylB a k = true
      ·rw [if_pos (.inl c5),c5];rfl
      ·rw [if_neg (by rintro (h | h);exact c5 h;omega)]
       have c5':sylB a k = false:=by simpa using c5
       rw [c5',Bool.false_or]
       by_cases c6:a = 5 ∧ k = 14
       ·obtain ⟨rfl,rfl⟩:=c6
        rw [if_pos ⟨rfl,rfl⟩,hd];simp
       ·rw [if_neg c6,ho]
        have:((stR r).d && decide ((a:Int) = 5) && decide (k = 14)) = false:=by
         by_cases h5:(a:Int) = 5
         ·have:¬ k = 14:=fun h=>c6 ⟨by omega,h⟩
          simp [this]
         ·simp [h5]
        rw [this,Bool.false_or,Bool.and_comm]
def stMs (ms:List (Int × Nat × Bool)):St:=stL (ms.map (·.1))
def begF (t:St) (p:Nat):List (Int × Nat × Bool) → List Int
 | []=>[]
 | m :: r=>(if jn t (cls m.1) = true then [] else [(p:Int)]) ++ begF (stp t (cls m.1)) (p + m.2.1) r
def begL (l:List UInt8):List Int:=begF st0 0 (marks l)
def width (ms:List (Int × Nat × Bool)):Nat:=(ms.map (·.2.1)).sum
theorem begF_append (t:St) (p:Nat) (a b:List (Int × Nat × Bool)) :
  begF t p (a ++ b) = begF t p a ++ begF ((a.map (·.1)).foldl (fun t c=>stp t (cls c)) t) (p + width a) b:=by
 induction a generalizing t p with
 | nil=>simp [begF,width]
 | cons m a ih =>
  simp only [List.cons_append,begF,ih,List.map_cons,List.foldl_cons,List.append_assoc,width,List.sum_cons]
  rw [Nat.add_assoc]
theorem begF_snoc (ms:List (Int × Nat × Bool)) (m:Int × Nat × Bool) :
  begF st0 0 (ms ++ [m]) = begF st0 0 ms ++ (if jn (stMs ms) (cls m.1) = true then [] else [(width ms:Int)]):=by
 rw [begF_append]
 simp only [begF,List.append_nil,Nat.zero_add]
 rfl
theorem stMs_snoc (ms:List (Int × Nat × Bool)) (m:Int × Nat × Bool):stMs (ms ++ [m]) = stp (stMs ms) (cls m.1):=by
 unfold stMs;rw [List.map_append];exact stL_snoc _ _
theorem width_snoc (ms:List (Int × Nat × Bool)) (m:Int × Nat × Bool):width (ms ++ [m]) = width ms + m.2.1:=by simp [width]
theorem begF_pre (a b:List (Int × Nat × Bool)):begF st0 0 a <+: begF st0 0 (a ++ b):=by rw [begF_append];exact List.prefix_append _ _
theorem begF_length (t:St) (p:Nat) (ms:List (Int × Nat × Bool)):(begF t p ms).length ≤ ms.length:=by
 induction ms generalizing t p with
 | nil=>simp [begF]
 | cons m ms ih =>
  have:=ih (stp t (cls m.1)) (p + m.2.1)
  simp only [begF,List.length_append,List.length_cons]
  split <;> simp <;> omega
theorem begL_length (l:List UInt8):(begL l).length ≤ l.length:=Nat.le_trans (begF_length _ _ _) (marks_length l)
theorem begF_bd (t:St) (p:Nat) (ms:List (Int × Nat × Bool)):∀ x ∈ begF t p ms,(p:Int) ≤ x ∧ x ≤ p + width ms:=by
 induction ms generalizing t p with
 | nil=>simp [begF]
 | cons m ms ih =>
  intro x hx
  have hw:width (m :: ms) = m.2.1 + width ms:=by simp [width]
  rw [begF,List.mem_append] at hx
  rcases hx with hx | hx
  ·split at hx
   ·cases hx
   ·rw [List.mem_singleton] at hx;omega
  ·have:=ih _ _ x hx
   omega
theorem width_marks (l:List UInt8):width (marks l) = l.length:=by
 refine marks_ind (p:=fun l=>width (marks l) = l.length) rfl ?_ l
 intro l hl ih
 have:=mark_n l hl
 rw [marks_cons l hl]
 show (mrk l).2.1 + width (marks (l.drop (mrk l).2.1)) = _
 rw [ih,List.length_drop];omega
def frsL (l:List UInt8):Int:=((begL l).find? (fun x=>decide (0 < x))).getD l.length
theorem frsL_none (l:List UInt8) (h:∀ x ∈ begL l,¬ 0 < x):frsL l = l.length:=by
 unfold frsL
 rw [List.find?_eq_none.2 (by simpa using h)];rfl
theorem frsL_some (l:List UInt8) (r:List Int) (x:Int) (hp:r ++ [x] <+: begL l) (hx:0 < x) (h:∀ y ∈ r,¬ 0 < y):frsL l = x:=by
 obtain ⟨t,ht⟩:=hp
 unfold frsL
 rw [← ht,List.append_assoc,List.find?_append,List.find?_eq_none.2 (by simpa using h)]
 simp [hx]
end Go.Proofs.YtghfdapfnoeanaaGreatDoor.Gm
namespace Go.Proofs.YtghfdapfnoeanaaGreatDoor
open Go.RowKit Cm
def flat2 (l:List (Int × Int)):List Value:=l.flatMap fun r=>[.int .i64 r.1,.int .i64 r.2]
theorem flat2_get (l:List (Int × Int)) (i:Nat) (h:i < l.length) :
  (flat2 l)[i * 2]? = some (.int .i64 (l.getD i (0,0)).1) ∧ (flat2 l)[i * 2 + 1]? = some (.int .i64 (l.getD i (0,0)).2):=by
 induction l generalizing i with
 | nil=>simp at h
 | cons r l ih =>
  cases i with
  | zero=>simp [flat2]
  | succ i =>
   have:=ih i (by simpa using h)
   have e:flat2 (r :: l) = .int .i64 r.1 :: .int .i64 r.2 :: flat2 l:=by simp [flat2]
   rw [e,show (i + 1) * 2 = i * 2 + 1 + 1 from by omega]
   simpa using this
def PRow (w:World) (v:Value) (l:List (Int × Int)):Prop :=
 ∃ a,v = .slice a l.length l.length ∧ ∀ i,i < l.length → ∃ g,a = some ⟨g,0,none⟩ ∧ g < w.heap.size ∧ w.cell? ⟨g,i * 2,none⟩ = some (.int .i64 (l.getD i (0,0)).1) ∧ w.cell? ⟨g,i * 2 + 1,none⟩ = some (.int .i64 (l.getD i (0,0)).2)
theorem PRow.q {w w':World} {v:Value} {l:List (Int × Int)} (h:PRow w v l) (hq:Q w w'):PRow w' v l:=by
 obtain ⟨a,hv,hc⟩:=h
 refine ⟨a,hv,fun i hi=>?_⟩
 obtain ⟨g,ha,hg,h1,h2⟩:=hc i hi
 refine ⟨g,ha,Nat.lt_of_lt_of_le hg hq.le,?_,?_⟩
 ·rw [World.cell?_of_block (w:=w) (hq.block hg)];exact h1
 ·rw [World.cell?_of_block (w:=w) (hq.block hg)];exact h2
theorem PRow.nil (w:World):PRow w (.slice none 0 0) []:=⟨none,rfl,fun i h=>by simp at h⟩
theorem PRow.made (w:World) (l:List (Int × Int)) (n:Nat) (hn:l.length = n) (t:TypeId) (cs:Array Value) (hcs:cs = (flat2 l).toArray) :
  PRow (w.alloc (.cells cs t)) (.slice (some ⟨w.heap.size,0,none⟩) n n) l:=by
 subst hn hcs
 refine ⟨_,rfl,fun i hi=>⟨w.heap.size,rfl,by simp,?_,?_⟩⟩
 ·rw [World.cell?_alloc_at _ _ _ _ rfl];simpa using (flat2_get l i hi).1
 ·rw [World.cell?_alloc_at _ _ _ _ rfl];simpa using (flat2_get l i hi).2
def flat3 (l:List (Int × Int × Int)):List Value:=l.flatMap fun r=>[.int .i64 r.1,.int .i64 r.2.1,.int .i64 r.2.2]
theorem flat3_get (l:List (Int × Int × Int)) (i:Nat) (h:i < l.length) :
  (flat3 l)[i * 3]? = some (.int .i64 (l.getD i (0,0,0)).1) ∧ (flat3 l)[i * 3 + 1]? = some (.int .i64 (l.getD i (0,0,0)).2.1) ∧ (flat3 l)[i * 3 + 2]? = some (.int .i64 (l.getD i (0,0,0)).2.2):=by
 induction l generalizing i with
 | nil=>simp at h
 | cons r l ih =>
  cases i with
  | zero=>simp [flat3]
  | succ i =>
   have:=ih i (by simpa using h)
   have e:flat3 (r :: l) = .int .i64 r.1 :: .int .i64 r.2.1 :: .int .i64 r.2.2 :: flat3 l:=by simp [flat3]
   rw [e,show (i + 1) * 3 = i * 3 + 1 + 1 + 1 from by omega]
   simpa using this
def TRow (w:World) (g:Nat) (l:List (Int × Int × Int)):Prop :=
 g < w.heap.size ∧ ∀ i,i < l.length → w.cell? ⟨g,i * 3,none⟩ = some (.int .i64 (l.getD i (0,0,0)).1) ∧ w.cell? ⟨g,i * 3 + 1,none⟩ = some (.int .i64 (l.getD i (0,0,0)).2.1) ∧ w.cell? ⟨g,i * 3 + 2,none⟩ = some (.int .i64 (l.getD i (0,0,0)).2.2)
theorem TRow.q {w w':World} {g:Nat} {l:List (Int × Int × Int)} (h:TRow w g l) (hq:Q w w'):TRow w' g l:=by
 obtain ⟨hg,hc⟩:=h
 refine ⟨Nat.lt_of_lt_of_le hg hq.le,fun i hi=>?_⟩
 obtain ⟨h1,h2,h3⟩:=hc i hi
 exact ⟨(World.cell?_of_block (w:=w) (hq.block hg)).trans h1,(World.cell?_of_block (w:=w) (hq.block hg)).trans h2,(World.cell?_of_block (w:=w) (hq.block hg)).trans h3⟩
theorem TRow.made (w:World) (l:List (Int × Int × Int)) (t:TypeId) (cs:Array Value) (hcs:cs = (flat3 l).toArray) :
  TRow (w.alloc (.cells cs t)) w.heap.size l:=by
 subst hcs
 refine ⟨by simp,fun i hi=>⟨?_,?_,?_⟩⟩
 ·rw [World.cell?_alloc_at _ _ _ _ rfl];simpa using (flat3_get l i hi).1
 ·rw [World.cell?_alloc_at _ _ _ _ rfl];simpa using (flat3_get l i hi).2.1
 ·rw [World.cell?_alloc_at _ _ _ _ rfl];simpa using (flat3_get l i hi).2.2
end Go.Proofs.YtghfdapfnoeanaaGreatDoor
