/- The classes of characters as plain mathematics: the table's rows, a character's class, and what both answers say of it. (and more) -/
import Derived.Test.YteggfkbnnmpcjaaGreatDoorR02
import Derived.Sort.KeysCollected
import Derived.Shelf.RegionOpen
set_option linter.all false
set_option maxRecDepth 100000
set_option maxHeartbeats 8000000
namespace Go.Proofs.YteggfkbnnmpcjaaGreatDoor
namespace Cm
def rowK:Nat -> List (Int × Int)
 | 1=>[(13,13)]
 | 2=>[(10,10)]
 | 3=>[(0,9),(11,12),(14,31),(127,159),(173,173),(8203,8203),(8206,8207),(8232,8238),(8288,8303),(65279,65279),(65520,65531),(917504,917535)]
 | 4=>[(768,879),(1155,1161),(1425,1469),(1552,1562),(1611,1631),(1648,1648),(2364,2364),(2369,2376),(2381,2381),(8204,8204),(8400,8432),(12330,12335),(12441,12442),(65024,65039),(65056,65071),(127995,127999),(917536,917631),(917760,917999)]
 | 5=>[(8205,8205)]
 | 6=>[(127462,127487)]
 | 7=>[(1536,1541),(1757,1757),(1807,1807),(2274,2274)]
 | 8=>[(2307,2307),(2363,2363),(2366,2368),(2377,2380),(2434,2435),(3635,3635),(3763,3763)]
 | 9=>[(4352,4447),(43360,43388)]
 | 10=>[(4448,4519),(55216,55238)]
 | 11=>[(4520,4607),(55243,55291)]
 | 14=>[(169,169),(174,174),(8252,8252),(8265,8265),(8482,8482),(8505,8505),(8596,8601),(8986,8987),(9728,9732),(9989,9989),(10084,10084),(127744,127994),(128000,128591),(128640,128767),(129280,129535)]
 | _=>[]
def inR (c:Int) (r:Int × Int):Bool:=decide (r.1 <= c) && decide (c <= r.2)
def anyK (c:Int) (k:Nat):Bool:=(rowK k).any (inR c)
def cls (c:Int):Nat :=
 if 44032 <= c /\ c <= 55203 then (if (c - 44032) % 28 = 0 then 12 else 13)
 else ((List.range 15).find? (anyK c)).getD 0
def rowZ (k:Int):List (Int × Int):=if 0 <= k then rowK k.toNat else []
theorem rowZ_nat (k:Nat):rowZ k = rowK k:=by unfold rowZ;rw [if_pos (by omega)];rfl
theorem rowK_none {k:Nat} (h:¬ (1 <= k /\ k <= 11) /\ ¬ k = 14):rowK k = []:=by
 unfold rowK;split <;> first | rfl | omega
theorem rowZ_none {k:Int} (h:¬ (1 <= k /\ k <= 11) /\ ¬ k = 14):rowZ k = []:=by
 unfold rowZ;split
 ·exact rowK_none (by omega)
 ·rfl
theorem rowZ_len (k:Int):(rowZ k).length <= 18:=by
 by_cases h:¬ (1 <= k /\ k <= 11) /\ ¬ k = 14
 ·rw [rowZ_none h];simp
 ·have:k = 1 \/ k = 2 \/ k = 3 \/ k = 4 \/ k = 5 \/ k = 6 \/ k = 7 \/ k = 8 \/ k = 9 \/ k = 10 \/ k = 11 \/ k = 14:=by omega
  rcases this with rfl | rfl | rfl | rfl | rfl | rfl | rfl | rfl | rfl | rfl | rfl | rfl <;> decide +kernel
def syll (c:Int):Prop:=44032 <= c /\ c <= 55203
theorem cls_lv {c:Int} (h:syll c) (h0:(c - 44032) % 28 = 0):cls c = 12:=by
 unfold cls;exact (if_pos h).trans (if_pos h0)
theorem cls_lvt {c:Int} (h:syll c) (h0:¬ (c - 44032) % 28 = 0):cls c = 13:=by
 unfold cls;exact (if_pos h).trans (if_neg h0)
theorem cls_neg {c:Int} (h:¬ syll c):cls c = ((List.range 15).find? (anyK c)).getD 0:=by unfold cls;exact if_neg h
theorem cls_at {c:Int} {j:Nat} (hs:¬ syll c) (hj:j < 15) (h0:∀ m,m < j -> anyK c m = false) (h1:anyK c j = true):cls c = j:=by
 rw [cls_neg hs];have:(List.range 15).find? (anyK c) = some j:=by
  rw [List.find?_eq_some_iff_getElem];refine ⟨h1,j,by simpa using hj,by simp,fun m hm=>?_⟩;simp [h0 m hm]
 rw [this];rfl
theorem cls_no {c:Int} (hs:¬ syll c) (h0:∀ m,m < 15 -> anyK c m = false):cls c = 0:=by
 rw [cls_neg hs];have:(List.range 15).find? (anyK c) = none:=by
  rw [List.find?_eq_none];intro m hm;simp [h0 m (by simpa using hm)]
 rw [this];rfl
def tab:List (Int × Int × Int):=(List.range 15).flatMap fun k=>(rowK k).map fun r=>(r.1,r.2,(k:Int))
theorem tab_len:tab.length = 66:=by decide +kernel
def inT (c:Int) (r:Int × Int × Int):Bool:=inR c (r.1,r.2.1)
theorem find_tab (c:Int) (ks:List Nat) :
  ((ks.flatMap fun k=>(rowK k).map fun r=>(r.1,r.2,(k:Int))).find? (inT c)).map (·.2.2) = (ks.find? (anyK c)).map (Nat.cast:Nat -> Int):=by
 induction ks with
 | nil=>rfl
 | cons k ks ih =>
  rw [List.flatMap_cons,List.find?_append,List.find?_cons];have hm:∀ l:List (Int × Int),((l.map fun r=>(r.1,r.2,(k:Int))).find? (inT c)).map (·.2.2) = if l.any (inR c) then some (k:Int) else none:=by
   intro l;induction l with
   | nil=>rfl
   | cons r l il =>
    rw [List.map_cons,List.find?_cons,List.any_cons];have e:inT c (r.1,r.2,(k:Int)) = inR c r:=rfl;rw [e];cases inR c r
    ·exact il
    ·rfl
  have hk:=hm (rowK k);show _ = Option.map _ (match (rowK k).any (inR c) with | true=>some k | false=>ks.find? (anyK c))
  cases ha:(rowK k).any (inR c)
  ·rw [ha] at hk
   simp only [Bool.false_eq_true,if_false,Option.map_eq_none_iff] at hk;rw [hk];simpa using ih
  ·rw [ha] at hk
   simp only [if_true] at hk;cases hf:((rowK k).map fun r=>(r.1,r.2,(k:Int))).find? (inT c) with
   | none=>rw [hf] at hk;cases hk
   | some x=>rw [hf] at hk;simpa using hk
theorem tab_cls {c:Int} (hs:¬ syll c):(((tab.find? (inT c)).map (·.2.2)).getD 0) = (cls c:Int):=by
 unfold tab;rw [find_tab];rw [cls_neg hs];cases (List.range 15).find? (anyK c) <;> rfl
theorem tab_at {c:Int} {j:Nat} (hs:¬ syll c) (hj:j < 66) (h0:(tab.take j).any (inT c) = false) (h1:inT c (tab.getD j (0,0,0)) = true):(tab.getD j (0,0,0)).2.2 = (cls c:Int):=by
 have hl:j < tab.length:=by rw [tab_len];exact hj
 have hg:tab.getD j (0,0,0) = tab[j]:=by rw [List.getD_eq_getElem?_getD,List.getElem?_eq_getElem hl];rfl
 have:tab.find? (inT c) = some (tab.getD j (0,0,0)):=by
  rw [List.find?_eq_some_iff_getElem];refine ⟨h1,j,hl,hg.symm,fun m hm=>?_⟩;have:=(List.any_eq_false.1 h0) (tab[m]'(by omega)) (by rw [List.mem_take_iff_getElem];exact ⟨m,by omega,rfl⟩);simpa using this
 rw [<- tab_cls hs,this];rfl
theorem tab_no {c:Int} (hs:¬ syll c) (h0:tab.any (inT c) = false):cls c = 0:=by
 have:tab.find? (inT c) = none:=by
  rw [List.find?_eq_none];intro x hx;have:=(List.any_eq_false.1 h0) x hx;simpa using this
 have h:=tab_cls hs;rw [this] at h;have:(0:Int) = (cls c:Int):=h;omega
theorem tab_bd (j:Nat):0 <= (tab.getD j (0,0,0)).1 /\ (tab.getD j (0,0,0)).1 <= 917999 /\ 0 <= (tab.getD j (0,0,0)).2.1 /\ (tab.getD j (0,0,0)).2.1 <= 917999 /\ (tab.getD j (0,0,0)).1 <= (tab.getD j (0,0,0)).2.1 /\ 0 <= (tab.getD j (0,0,0)).2.2 /\ (tab.getD j (0,0,0)).2.2 <= 14:=by
 have h:tab.all (fun r=>decide (0 <= r.1) && decide (r.1 <= 917999) && decide (0 <= r.2.1) && decide (r.2.1 <= 917999) && decide (r.1 <= r.2.1) && decide (0 <= r.2.2) && decide (r.2.2 <= 14)) = true:=by decide +kernel
 rw [List.getD_eq_getElem?_getD];by_cases hj:j < tab.length
 ·rw [List.getElem?_eq_getElem hj]
  have:=(List.all_eq_true.1 h) tab[j] (List.getElem_mem hj);simp only [Bool.and_eq_true,decide_eq_true_eq] at this;exact ⟨this.1.1.1.1.1.1,this.1.1.1.1.1.2,this.1.1.1.1.2,this.1.1.1.2,this.1.1.2,this.1.2,this.2⟩
 ·rw [List.getElem?_eq_none (by omega)];decide
def blanks:List Int:=[9,10,11,12,13,32,160,8201,8239]
def blankB (c:Int):Bool:=blanks.contains c
def plP (l:List Int):Bool:=(l.all fun c=>cls c == 0 || cls c == 4) && (match l with | []=>true | c :: _=>cls c == 0)
def plainB (l:List Int):Bool:=plP l && decide (0 < l.length)
theorem plP_snoc (l:List Int) (c:Int):plP (l ++ [c]) = (plP l && (cls c == 0 || (cls c == 4 && decide (0 < l.length)))):=by
 cases l with
 | nil =>
  simp only [plP,List.nil_append,List.all_cons,List.all_nil];cases (cls c == 0) <;> cases (cls c == 4) <;> simp
 | cons d r =>
  simp only [plP,List.cons_append,List.all_cons,List.all_append,List.all_nil,List.length_cons];have:decide (0 < r.length + 1) = true:=by simp
  rw [this];cases (cls c == 0) <;> cases (cls c == 4) <;> cases (cls d == 0) <;> cases (cls d == 4) <;> cases (r.all fun c=>cls c == 0 || cls c == 4) <;> rfl
theorem plP_take (l:List Int) (j:Nat) (h:j < l.length):plP (l.take (j + 1)) = (plP (l.take j) && (cls (l.getD j 0) == 0 || (cls (l.getD j 0) == 4 && decide (0 < j)))):=by
 rw [List.take_succ_eq_append_getElem h,plP_snoc,List.getD_eq_getElem?_getD,List.getElem?_eq_getElem h];have:(l.take j).length = j:=by rw [List.length_take];omega
 rw [this];rfl
theorem plP_false_take (l:List Int) (j:Nat) (h:plP (l.take j) = false):plP l = false:=by
 have e:l = l.take j ++ l.drop j:=(List.take_append_drop j l).symm;generalize l.take j = a at *;generalize l.drop j = b at *;subst e;cases a with
 | nil=>simp [plP] at h
 | cons d r =>
  simp only [plP,List.cons_append,List.all_cons,List.all_append] at h |-;cases h1:(cls d == 0) <;> cases h2:(cls d == 4) <;> cases h3:(r.all fun c=>cls c == 0 || cls c == 4) <;> simp_all
end Cm
section
namespace Pt
open Um
def kindC (c:Int):Int :=
 if c = 164 then 1 else if c = 37 then 2 else if c = 45 then 3
 else if c = 35 \/ c = 48 \/ c = 44 \/ c = 46 then 4
 else if c = 59 then 5
 else if (49 <= c /\ c <= 57) \/ c = 64 \/ c = 42 \/ c = 43 \/ c = 69 then 6 else 0
def tokS:Bool -> Bool -> List Int -> Option (List (Int × Int))
 | q,p,[]=>if (q != p) = true then none else some []
 | q,p,c :: r =>
  if c = 39 then (if p = true then (tokS q false r).map ((0,39) :: ·) else tokS q true r)
  else if (q != p) = true then (tokS true false r).map ((0,c) :: ·)
  else if kindC c = 6 then none
  else (tokS false false r).map ((kindC c,c) :: ·)
def tkn (cs:List Int):Option (List (Int × Int)):=tokS false false cs
def outS:Bool -> Bool -> List Int -> Option (List (Int × Int) × Bool × Bool)
 | q,p,[]=>some ([],q,p)
 | q,p,c :: r =>
  if c = 39 then (if p = true then (outS q false r).map (fun x=>((0,39) :: x.1,x.2)) else outS q true r)
  else if (q != p) = true then (outS true false r).map (fun x=>((0,c) :: x.1,x.2))
  else if kindC c = 6 then none
  else (outS false false r).map (fun x=>((kindC c,c) :: x.1,x.2))
theorem tokS_cons (q p:Bool) (c:Int) (r:List Int):tokS q p (c :: r) = if c = 39 then (if p = true then (tokS q false r).map ((0,39) :: ·) else tokS q true r) else if (q != p) = true then (tokS true false r).map ((0,c) :: ·) else if kindC c = 6 then none else (tokS false false r).map ((kindC c,c) :: ·):=rfl
theorem outS_cons (q p:Bool) (c:Int) (r:List Int):outS q p (c :: r) = if c = 39 then (if p = true then (outS q false r).map (fun x=>((0,39) :: x.1,x.2)) else outS q true r) else if (q != p) = true then (outS true false r).map (fun x=>((0,c) :: x.1,x.2)) else if kindC c = 6 then none else (outS false false r).map (fun x=>((kindC c,c) :: x.1,x.2)):=rfl
theorem tok_append (a b:List Int):∀ (q p:Bool),tokS q p (a ++ b) = (outS q p a).bind fun x=>(tokS x.2.1 x.2.2 b).map (x.1 ++ ·):=by
 induction a with
 | nil=>intro q p;simp [outS]
 | cons c r ih =>
  intro q p;rw [List.cons_append];rw [tokS_cons,outS_cons];by_cases h1:c = 39
  ·rw [if_pos h1,if_pos h1]
   cases p
   ·simp only [Bool.false_eq_true,if_false]
    exact ih q true
   ·simp only [if_true]
    rw [ih q false];cases outS q false r with
    | none=>rfl
    | some x=>simp [Option.map_map,Function.comp_def]
  ·rw [if_neg h1,if_neg h1]
   by_cases h2:(q != p) = true
   ·rw [if_pos h2,if_pos h2,ih true false]
    cases outS true false r with
    | none=>rfl
    | some x=>simp [Option.map_map,Function.comp_def]
   ·rw [if_neg h2,if_neg h2]
    by_cases h3:kindC c = 6
    ·rw [if_pos h3,if_pos h3];rfl
    ·rw [if_neg h3,if_neg h3,ih false false]
     cases outS false false r with
     | none=>rfl
     | some x=>simp [Option.map_map,Function.comp_def]
theorem out_append (a b:List Int):∀ (q p:Bool),outS q p (a ++ b) = (outS q p a).bind fun x=>(outS x.2.1 x.2.2 b).map fun y=>(x.1 ++ y.1,y.2):=by
 induction a with
 | nil=>intro q p;simp [outS]
 | cons c r ih =>
  intro q p;rw [List.cons_append];rw [outS_cons,outS_cons];by_cases h1:c = 39
  ·rw [if_pos h1,if_pos h1]
   cases p
   ·simp only [Bool.false_eq_true,if_false]
    exact ih q true
   ·simp only [if_true]
    rw [ih q false];cases outS q false r with
    | none=>rfl
    | some x=>simp [Option.map_map,Function.comp_def]
  ·rw [if_neg h1,if_neg h1]
   by_cases h2:(q != p) = true
   ·rw [if_pos h2,if_pos h2,ih true false]
    cases outS true false r with
    | none=>rfl
    | some x=>simp [Option.map_map,Function.comp_def]
   ·rw [if_neg h2,if_neg h2]
    by_cases h3:kindC c = 6
    ·rw [if_pos h3,if_pos h3];rfl
    ·rw [if_neg h3,if_neg h3,ih false false]
     cases outS false false r with
     | none=>rfl
     | some x=>simp [Option.map_map,Function.comp_def]
theorem tok_out (cs:List Int) (q p:Bool):tokS q p cs = (outS q p cs).bind fun x=>if (x.2.1 != x.2.2) = true then none else some x.1:=by
 have:=tok_append cs [] q p;rw [List.append_nil] at this;rw [this];cases outS q p cs with
 | none=>rfl
 | some x =>
  simp only [Option.bind_some,tokS];split <;> simp
def encL (c:Int):List UInt8:=(encB c).data.toList
def joinT:List UInt8 -> List (Int × Int) -> List (Int × List UInt8)
 | t,[]=>if t = [] then [] else [(0,t)]
 | t,x :: r=>if x.1 = 0 then joinT (t ++ encL x.2) r else (if t = [] then [] else [(0,t)]) ++ (x.1,[]) :: joinT [] r
structure NS where
 point:Bool
 since:Int
 group:Int
 commas:Int
 whole:Int
 zeros:Int
 minF:Int
 maxF:Int
deriving DecidableEq
def numS:NS -> List Int -> Option NS
 | n,[]=>some n
 | n,c :: r =>
  if c = 46 then (if n.point = true \/ n.whole = 0 \/ (0 < n.commas /\ n.since = 0) then none else numS { n with point:=true } r)
  else if n.point = true then (if c = 44 \/ (c = 48 /\ n.minF < n.maxF) then none else numS { n with maxF:=n.maxF + 1,minF:=if c = 48 then n.minF + 1 else n.minF } r)
  else if c = 44 then (if n.since = 0 then none else numS { n with group:=n.since,since:=0,commas:=n.commas + 1 } r)
  else if c = 35 /\ 0 < n.zeros then none
  else numS { n with zeros:=if c = 48 then n.zeros + 1 else n.zeros,whole:=n.whole + 1,since:=n.since + 1 } r
def ns0:NS:=⟨false,0,0,0,0,0,0,0⟩
structure Nm where
 pr:Int
 se:Int
 mi:Int
 mf:Int
 xf:Int
 long:Bool
deriving DecidableEq
def numE (n:NS):Option Nm :=
 if n.whole = 0 \/ n.since = 0 \/ (n.point = true /\ n.maxF = 0) then none
 else some ⟨if 0 < n.commas then n.since else 0,if 1 < n.commas then n.group else if 0 < n.commas then n.since else 0,n.zeros,n.minF,n.maxF,decide (64 < n.whole \/ 64 < n.maxF)⟩
def num (cs:List Int):Option Nm:=(numS ns0 cs).bind numE
abbrev Pc:=Int × List UInt8
structure Hf where
 pre:List Pc
 suf:List Pc
 nm:Nm
deriving DecidableEq
def isN (x:Int × Int):Bool:=x.1 == 4
def half (l:List (Int × Int)):Option Hf :=
 let r:=l.dropWhile fun x=>!isN x
 let s:=r.dropWhile isN
 if s.any isN = true then none
 else (num ((r.takeWhile isN).map (·.2))).map fun n=>⟨joinT [] (l.takeWhile fun x=>!isN x),joinT [] s,n⟩
structure Pat where
 pre:List Pc
 suf:List Pc
 npre:List Pc
 nsuf:List Pc
 pr:Int
 se:Int
 mi:Int
 mf:Int
 xf:Int
deriving DecidableEq
def pat0:Pat:=⟨[],[],[],[],0,0,0,0,0⟩
def isD (x:Int × Int):Bool:=x.1 == 5
def mkP (h:Hf) (np ns:List Pc):Pat:=⟨h.pre,h.suf,np,ns,h.nm.pr,h.nm.se,h.nm.mi,h.nm.mf,h.nm.xf⟩
def parseT (l:List (Int × Int)):Pat × Int :=
 match half (l.takeWhile fun x=>!isD x) with
 | none=>(pat0,2)
 | some h =>
  match l.dropWhile fun x=>!isD x with
  | []=>if h.nm.long = true then (pat0,3) else (mkP h ((3,[]) :: h.pre) h.suf,0)
  | _ :: r =>
   if r.any isD = true then (pat0,2)
   else match half r with
    | none=>(pat0,2)
    | some k=>if (h.nm.long || k.nm.long) = true then (pat0,3) else (mkP h k.pre k.suf,0)
def parseC (cs:List Int):Pat × Int:=match tkn cs with
 | none=>(pat0,2)
 | some l=>parseT l
/-! ### texts that are made of any -/
def sgn:List (List Int):=[[97],[164],[37],[45],[39,35,39],[39,39],[160],[101,769],[39,46,59,39],[120,39,121,39]]
def sgL (l:List Int):List Int:=(l.take 5).flatMap fun n=>sgn.getD (around n 10).toNat []
def whl (n zeros p q:Int):Nat -> List Int
 | 0=>[]
 | i + 1=>(if (i + 1:Int) < n /\ ((i + 1:Int) = p \/ (0 < p /\ 0 < q /\ (i + 1:Int) = p + q)) then [44] else []) ++ (if (i + 1:Int) <= zeros then 48 else 35) :: whl n zeros p q i
def nmT (zeros p q a b:Nat):List Int :=
 let n:Nat:=max zeros (p + q + 1)
 whl n zeros p q n ++ (if 0 < a + b then 46 :: ([48,48,48].take a ++ [35,35,35].take b) else [])
def okT (l:List (Int × Int)):Prop:=∀ x ∈ l,0 <= x.1 /\ x.1 <= 3
theorem sgn_out:∀ i,i < 10 -> ∀ b:Bool,∃ l c,outS b b (sgn.getD i []) = some (l,c,c) /\ okT l:=by
 intro i hi b;have h:∀ i,i < 10 -> ∀ b:Bool,(match outS b b (sgn.getD i []) with | none=>false | some (l,c,d)=>(c == d) && l.all fun x=>decide (0 <= x.1 /\ x.1 <= 3)) = true:=by decide +kernel
 have:=h i hi b;cases ho:outS b b (sgn.getD i []) with
 | none=>rw [ho] at this;cases this
 | some x =>
  obtain ⟨l,c,d⟩:=x;rw [ho] at this;simp only [Bool.and_eq_true,beq_iff_eq,List.all_eq_true,decide_eq_true_eq] at this;exact ⟨l,c,by rw [this.1],this.2⟩
theorem flat_out (ls:List (List Int)) (h:∀ s ∈ ls,∀ b:Bool,∃ l c,outS b b s = some (l,c,c) /\ okT l):∀ b:Bool,∃ l c,outS b b ls.flatten = some (l,c,c) /\ okT l:=by
 induction ls with
 | nil=>intro b;exact ⟨[],b,rfl,fun x hx=>absurd hx List.not_mem_nil⟩
 | cons s r ih =>
  intro b;obtain ⟨l1,c1,h1,k1⟩:=h s List.mem_cons_self b;obtain ⟨l2,c2,h2,k2⟩:=ih (fun t ht=>h t (List.mem_cons_of_mem _ ht)) c1;refine ⟨l1 ++ l2,c2,?_,fun x hx=>?_⟩
  ·rw [List.flatten_cons,out_append,h1]
   simp [h2]
  ·rcases List.mem_append.1 hx with hx | hx
   ·exact k1 x hx
   ·exact k2 x hx
theorem sgL_out (l:List Int) (b:Bool):∃ t c,outS b b (sgL l) = some (t,c,c) /\ okT t:=by
 unfold sgL;rw [List.flatMap_def];refine flat_out _ (fun s hs=>?_) b;obtain ⟨n,_,rfl⟩:=List.mem_map.1 hs;have:=around_bd n 10 (by omega);exact sgn_out _ (by omega)
end Pt
end
section
namespace Sm
open Um
def tab:List (List UInt8 × Int):=[
 ([97,114,97,98],1632),
 ([97,114,97,98,101,120,116],1776),
 ([98,101,110,103],2534),
 ([100,101,118,97],2406),
 ([102,117,108,108,119,105,100,101],65296),
 ([103,117,106,114],2790),
 ([103,117,114,117],2662),
 ([107,104,109,114],6112),
 ([107,110,100,97],3302),
 ([108,97,111,111],3792),
 ([108,97,116,110],48),
 ([109,97,116,104,115,97,110,98],120812),
 ([109,108,121,109],3430),
 ([109,111,110,103],6160),
 ([109,121,109,114],4160),
 ([111,114,121,97],2918),
 ([116,97,109,108,100,101,99],3046),
 ([116,101,108,117],3174),
 ([116,104,97,105],3664),
 ([116,105,98,116],3872)]
def nzF:List (List UInt8 × Int) -> List UInt8 -> Int
 | [],_=>-1
 | p :: r,x=>if p.1 = x then p.2 else nzF r x
theorem nzF_cons (p:List UInt8 × Int) (r:List (List UInt8 × Int)) (x:List UInt8):nzF (p :: r) x = if p.1 = x then p.2 else nzF r x:=rfl
def nz (x:List UInt8):Int:=nzF tab x
def nmL:List (List UInt8):=tab.map (·.1)
def nmB:List ByteArray:=nmL.map fun l=>⟨l.toArray⟩
def zrs:List Int:=tab.map (·.2)
def vl (z c:Int):Int:=if z <= c /\ c <= z + 9 then c - z else -1
def ofF:List (List UInt8 × Int) -> Int -> List UInt8 × Int
 | [],_=>([],-1)
 | p :: r,c=>if p.2 <= c /\ c <= p.2 + 9 then (p.1,c - p.2) else ofF r c
def ofC (c:Int):List UInt8 × Int:=ofF tab c
def idx (n:Int):Nat:=(around n 20).toNat
def nm (n:Int):List UInt8:=nmL.getD (idx n) []
theorem tab_len:tab.length = 20:=rfl
theorem nmL_len:nmL.length = 20:=rfl
theorem tab_bd:∀ p ∈ tab,48 <= p.2 /\ p.2 <= 120812 /\ (p.2 + 9 < 55296 \/ 57343 < p.2) /\ p.1.length <= 8:=by decide
theorem tab_nz:∀ p ∈ tab,nz p.1 = p.2:=by decide +kernel
theorem tab_apart:tab.Pairwise fun p q=>p.2 + 10 <= q.2 \/ q.2 + 10 <= p.2:=by decide
theorem nzF_cases (l:List (List UInt8 × Int)) (x:List UInt8):(nzF l x = -1 /\ ∀ p ∈ l,p.1 ≠ x) \/ (x,nzF l x) ∈ l:=by
 induction l with
 | nil=>exact .inl ⟨rfl,fun p hp=>absurd hp List.not_mem_nil⟩
 | cons q r ih =>
  unfold nzF;by_cases h:q.1 = x
  ·rw [if_pos h]
   exact .inr (by rw [<- h];exact List.mem_cons_self)
  ·rw [if_neg h]
   rcases ih with ⟨h1,h2⟩ | h1
   ·exact .inl ⟨h1,fun p hp=>by
     rcases List.mem_cons.1 hp with rfl | hp
     ·exact h
     ·exact h2 p hp⟩
   ·exact .inr (List.mem_cons_of_mem _ h1)
theorem nz_cases (x:List UInt8):(nz x = -1 /\ x ∉ nmL) \/ (x,nz x) ∈ tab:=by
 rcases nzF_cases tab x with ⟨h,k⟩ | h
 ·refine .inl ⟨h,fun hx=>?_⟩
  obtain ⟨p,hp,rfl⟩:=List.mem_map.1 hx;exact k p hp rfl
 ·exact .inr h
theorem nz_bd (x:List UInt8):nz x = -1 \/ (48 <= nz x /\ nz x <= 120812 /\ (nz x + 9 < 55296 \/ 57343 < nz x)):=by
 rcases nz_cases x with ⟨h,_⟩ | h
 ·exact .inl h
 ·have:=tab_bd _ h
  exact .inr ⟨this.1,this.2.1,this.2.2.1⟩
theorem ofF_mem {l:List (List UInt8 × Int)} (hp:l.Pairwise fun p q=>p.2 + 10 <= q.2 \/ q.2 + 10 <= p.2) {p:List UInt8 × Int} (h:p ∈ l) {c:Int} (h1:p.2 <= c) (h2:c <= p.2 + 9):ofF l c = (p.1,c - p.2):=by
 induction l with
 | nil=>cases h
 | cons q r ih =>
  obtain ⟨k1,k2⟩:=List.pairwise_cons.1 hp;unfold ofF;rcases List.mem_cons.1 h with rfl | h
  ·rw [if_pos ⟨h1,h2⟩]
  ·have:=k1 p h
   rw [if_neg (by omega)];exact ih k2 h
theorem ofF_none {l:List (List UInt8 × Int)} {c:Int} (h:∀ p ∈ l,¬ (p.2 <= c /\ c <= p.2 + 9)):ofF l c = ([],-1):=by
 induction l with
 | nil=>rfl
 | cons q r ih =>
  unfold ofF;rw [if_neg (h q List.mem_cons_self)];exact ih fun p hp=>h p (List.mem_cons_of_mem _ hp)
theorem ofC_mem {p:List UInt8 × Int} (h:p ∈ tab) {c:Int} (h1:p.2 <= c) (h2:c <= p.2 + 9):ofC c = (p.1,c - p.2):=ofF_mem tab_apart h h1 h2
theorem ofC_none {c:Int} (h:∀ p ∈ tab,¬ (p.2 <= c /\ c <= p.2 + 9)):ofC c = ([],-1):=ofF_none h
theorem idx_lt (n:Int):idx n < 20:=by
 have:=around_bd n 20 (by omega);unfold idx;omega
theorem idx_int (n:Int):around n 20 = (idx n:Int):=by
 have:=around_bd n 20 (by omega);unfold idx;omega
theorem nmB_at (i:Nat) (h:i < 20):nmB[i]? = some ⟨(nmL.getD i []).toArray⟩:=by
 unfold nmB;rw [List.getElem?_map,List.getD_eq_getElem?_getD,List.getElem?_eq_getElem (by rw [nmL_len];exact h)];rfl
/-! ### the map -/
def entries (l:List (List UInt8 × Int)):List (Lit × DataW Unit):=l.map fun p=>(.string p.1,.lit (.int .i64 p.2))
def D0:DataW Unit:=.map (entries tab)
theorem has_entries (l:List (List UInt8 × Int)) (hl:∀ p ∈ l,p.2 ≠ -1) (x:List UInt8):Maps.has (.map (entries l)) (.string x) = decide (nzF l x ≠ -1):=by
 induction l with
 | nil=>rfl
 | cons q r ih =>
  have ih:=ih fun p hp=>hl p (List.mem_cons_of_mem _ hp);rw [Maps.has_eq] at ih |-;show ((Lit.string q.1).sameKey (.string x) || (entries r).any fun p=>p.1.sameKey (.string x)) = _;rw [ih,nzF_cons];by_cases h:q.1 = x
  ·have:=hl q List.mem_cons_self
   simp [Lit.sameKey,h,this]
  ·simp [Lit.sameKey,h]
theorem at_entries (l:List (List UInt8 × Int)) (x:List UInt8) (h:nzF l x ≠ -1) (z:DataW Unit):(DataW.map (entries l)).atKey (.string x) z = .lit (.int .i64 (nzF l x)):=by
 induction l with
 | nil=>exact absurd rfl h
 | cons q r ih =>
  unfold nzF at h |-;unfold DataW.atKey at ih |-;by_cases hq:q.1 = x
  ·simp [entries,Lit.sameKey,hq]
  ·rw [if_neg hq] at h |-
   have:=ih h;have hf:(Lit.string q.1).sameKey (.string x) = false:=by simp [Lit.sameKey,hq]
   simp only [entries,List.map_cons,List.find?_cons,hf];exact this
theorem at_none (l:List (List UInt8 × Int)) (hl:∀ p ∈ l,p.2 ≠ -1) (x:List UInt8) (h:nzF l x = -1) (z:DataW Unit):(DataW.map (entries l)).atKey (.string x) z = z:=by
 induction l with
 | nil=>rfl
 | cons q r ih =>
  have h0:=hl q List.mem_cons_self;unfold nzF at h;unfold DataW.atKey at ih |-;by_cases hq:q.1 = x
  ·rw [if_pos hq] at h;exact absurd h h0
  ·rw [if_neg hq] at h
   have:=ih (fun p hp=>hl p (List.mem_cons_of_mem _ hp)) h;have hf:(Lit.string q.1).sameKey (.string x) = false:=by simp [Lit.sameKey,hq]
   simp only [entries,List.map_cons,List.find?_cons,hf];exact this
theorem tab_ne:∀ p ∈ tab,p.2 ≠ -1:=fun p hp=>by have:=tab_bd p hp;omega
theorem D0_has (x:List UInt8):Maps.has D0 (.string x) = decide (nz x ≠ -1):=has_entries tab tab_ne x
theorem D0_at (x:List UInt8) (z:DataW Unit) (h:nz x ≠ -1):D0.atKey (.string x) z = .lit (.int .i64 (nz x)):=at_entries tab x h z
theorem D0_none (x:List UInt8) (z:DataW Unit) (h:nz x = -1):D0.atKey (.string x) z = z:=at_none tab tab_ne x h z
theorem D0_mem {x:List UInt8} {c:Int} (h:D0.atKey (.string x) (.lit (.bool true)) = .lit (.int .i64 c)):(x,c) ∈ tab:=by
 by_cases hn:nz x = -1
 ·rw [D0_none x _ hn] at h;cases h
 ·rw [D0_at x _ hn] at h
  rcases nz_cases x with ⟨h1,_⟩ | h1
  ·exact absurd h1 hn
  ·have:nz x = c:=by
    injection h with h;injection h
   rw [<- this];exact h1
/-! ### digits shaped, and read -/
def dgE (z d:Int):Int:=if z = -1 then 7 else if 0 <= d /\ d <= 9 then 0 else 3
def dgS (z d:Int):ByteArray:=if z = -1 then ⟨#[]⟩ else if 0 <= d /\ d <= 9 then encB (z + d) else ⟨#[]⟩
def vv (z c:Int):Int:=if z = -1 then -1 else vl z c
end Sm
end
section
open Go.RowKit Um
def cat (xs:List ByteArray):List UInt8:=xs.flatMap fun p=>p.data.toList
theorem cat_take (xs:List ByteArray) (k:Nat) (x:ByteArray) (h:xs[k]? = some x):cat (xs.take (k + 1)) = cat (xs.take k) ++ x.data.toList:=by
 obtain ⟨hk,rfl⟩:=List.getElem?_eq_some_iff.1 h;unfold cat;rw [List.take_succ_eq_append_getElem hk,List.flatMap_append];simp
theorem cat_take_le (xs:List ByteArray) (k:Nat):(cat (xs.take k)).length <= (cat xs).length:=by
 have h:cat xs = cat (xs.take k) ++ cat (xs.drop k):=by
  unfold cat;rw [<- List.flatMap_append,List.take_append_drop]
 rw [h,List.length_append];omega
namespace Bl
theorem room_any (B b n:Nat) (w:World) (hB:B <= b) (hbk:w.heap[b]? = some (.cells #[.pointer none,.slice none 0 0] 93 (0,0))) (hBw:B <= w.heap.size) (hn:n <= 1099511627776) :
  Calls Tryz.prog 206 #[.pointer (some ⟨b,0,none⟩),.int .i64 n] w fun e w'=>e = .returned (.tuple #[]) /\ Is B b [] w' /\ Below B w w':=by
 have c0:w.cell? ⟨b,0,none⟩ = some (.pointer none):=by rw [Lib.cell_of_heap hbk];rfl
 have hsh:w.shape? b = some (93,2):=by simp [World.shape?,hbk]
 have hb1:(w.setCell ⟨b,0,none⟩ (.pointer (some ⟨b,0,none⟩))).heap[b]? = some (.cells #[.pointer (some ⟨b,0,none⟩),.slice none 0 0] 93 (0,0)):=by
  simp [World.setCell,Array.getElem?_modify,hbk]
 have hq1:Below B w (w.setCell ⟨b,0,none⟩ (.pointer (some ⟨b,0,none⟩))):=(Below.refl B w).setCell (p:=⟨b,0,none⟩) hB _;have hus:Lib.BuilderAt 93 5 B b (.pointer (some ⟨b,0,none⟩)) [] (w.setCell ⟨b,0,none⟩ (.pointer (some ⟨b,0,none⟩))):=⟨hB,.slice none 0 0,hb1,World.ownsRow_nil _ _ _ _,by simp [Value.ownBlock]⟩;have hfz:=Lib.frozen_of_heap hbk 0;have mixed:Tryz.prog.follows Departure.mixedOrders = true:=by kernel_rfl
 have hBw1:B <= (w.setCell ⟨b,0,none⟩ (.pointer (some ⟨b,0,none⟩))).drew.heap.size:=Nat.le_trans hBw hq1.size;go_enter Tryz.func206,Tryz.ntmps206
 go_wp2_with (go_at_call 83;refine (check_fresh b w c0 hsh hfz).mono ?_;rintro e w' ⟨rfl,rfl⟩)
 generalize w.setCell ⟨b,0,none⟩ (.pointer (some ⟨b,0,none⟩)) = W at *;have c1:W.drew.cell? ⟨b,1,none⟩ = some (.slice none 0 0):=by
  have:W.drew.heap[b]? = _:=hb1;rw [Lib.cell_of_heap this];rfl
 go_region_o
 all_goals go_wp2_with (go_at_call 214;refine (grow_any B b n W.drew hB hb1 hBw1 (by omega)).mono ?_;rintro e w' ⟨rfl,h1,h2⟩)
 all_goals first
  | (go_end0;exact ⟨rfl,Lib.IsBuilderF.of (.inr h1),hq1.drew.trans h2⟩)
  | (go_end0;exact ⟨rfl,Lib.IsBuilderF.of (.inr hus.drew),hq1.drew⟩)
end Bl
theorem sjoin_any (v:Value) (xs:List ByteArray) (w:World) (hv:SLst w v xs) (hx:xs.length <= 1073741824) (hl:(cat xs).length <= 1073741824) :
  Calls Tryz.prog 194 #[v,.string ⟨#[]⟩] w fun e w'=>e = .returned (.string ⟨(cat xs).toArray⟩) /\ Q w w':=by
 obtain ⟨n,hn⟩:∃ n,n = xs.length:=⟨_,rfl⟩;by_cases h0:n = 0
 ·have hxs:xs = []:=List.eq_nil_of_length_eq_zero (by omega)
  subst hxs;obtain ⟨a,c,rfl⟩:=hv.shape;clear hv hx hl hn h0;go_enter Tryz.func194,Tryz.ntmps194
  go_wp2
  go_ret
  exact ⟨rfl,Q.refl _⟩
 by_cases h1:n = 1
 ·obtain ⟨x,rfl⟩:∃ x,xs = [x]:=by
   match xs,hn with
   | [x],_=>exact ⟨x,rfl⟩
   | [],h=>exact absurd h (by simpa using h0)
   | _ :: _ :: _,h=>simp at h;omega
  obtain ⟨g,off,cap,rfl,hg,_,_,c1⟩:=hv.cellOf (n:=1) (k:=0) (x:=x) rfl rfl;rw [Nat.add_zero] at c1;have HR:=Hd (show (⟨(cat [x]).toArray⟩:ByteArray) = x from ba_ext (by simp [cat]));clear hv hx hl hn h0 h1;go_enter Tryz.func194,Tryz.ntmps194
  go_wp2
  go_ret
  rw [HR.out];exact ⟨rfl,Q.refl _⟩
 have h2:2 <= n:=by omega
 obtain ⟨g,off,cap,rfl,hg,hcp,hcm,hcell⟩:∃ g off cap,v = .slice (some ⟨g,off,none⟩) n cap /\ g < w.heap.size /\ n <= cap /\ cap <= maxLen /\ ∀ i x,xs[i]? = some x -> w.cell? ⟨g,off + i,none⟩ = some (.string x):=by
  rcases hv with ⟨rfl,_⟩ | ⟨g,off,cap,hvv,hg,e1,e2,hc⟩
  ·simp at hn;omega
  ·rw [<- hn] at hvv e1
   exact ⟨g,off,cap,hvv,hg,e1,e2,hc⟩
 unfold maxLen at hcm;rw [<- hn] at hx;have hne0:((n:Int) == 0) = false:=beq_eq_false_iff_ne.2 (by omega);have hne1:((n:Int) == 1) = false:=beq_eq_false_iff_ne.2 (by omega);have hnc:¬ (1 = cap):=by omega
 have hget:∀ k,k < n -> ∃ x,xs[k]? = some x:=fun k hk=>⟨xs[k]'(by omega),List.getElem?_eq_getElem (by omega)⟩;have hle:∀ k,(cat (xs.take k)).length <= 1073741824:=fun k=>Nat.le_trans (cat_take_le xs k) hl;have hall:∀ k,n <= k -> xs.take k = xs:=fun k hk=>List.take_of_length_le (by omega);have hfr:∀ (u:World) (T:Nat),T <= 1073741824 -> Calls Tryz.prog 206 #[.pointer (some ⟨u.heap.size,0,none⟩),.int .i64 T] (u.alloc (.cells #[.pointer none,.slice none 0 0] 93)) fun e w'=>e = .returned (.tuple #[]) /\ Bl.Is u.heap.size u.heap.size [] w' /\ Below u.heap.size (u.alloc (.cells #[.pointer none,.slice none 0 0] 93)) w':=fun u T hT =>
  Bl.room_any u.heap.size u.heap.size T _ (Nat.le_refl _) (heap_alloc_new u _) (by simp) (by omega)
 have HN:=Hd hn;have HG:=Hd hget;have HL:=Hd hle;have HA:=Hd hall;have HC:=Hd hcell;have HF:=Hd hfr;have HT:=Hd (fun k x h=>cat_take xs k x h);clear hn hget hle hall hcell hv hl h0 h1 hfr;go_enter Tryz.func194,Tryz.ntmps194
 go_wp2_with fail
 go_loop [5,41] (fun t i=>∃ k:Nat,k <= n /\ i = .int .i64 k /\ t = .int .i64 ((cat (xs.take k)).length:Nat)) (fun _ i=>n - (intOf i).toNat)
 case atStart=>exact ⟨0,Nat.zero_le _,rfl,rfl⟩
 case round =>
  obtain ⟨k,hk,rfl,rfl⟩:=hrel;by_cases hkn:k < n
  ·obtain ⟨x,hx1⟩:=HG.out k hkn
   have c1:=HC.out k x hx1;have ht:=congrArg List.length (HT.out k x hx1);rw [List.length_append,size_list] at ht;have hb:=HL.out (k + 1);generalize (cat (xs.take k)).length = T0 at ht |-;have HTT:=Hd ht;have hb2:T0 + x.size <= 1073741824:=by omega
   clear ht hx1;go_wp2_with fail
   exact ⟨⟨k + 1,by omega,by go_num,by rw [HTT.out];go_num⟩,by simp [intOf];omega⟩
  ·have hke:k = n:=by omega
   subst hke;have hb:=HL.out k;rw [HA.out k (Nat.le_refl _)] at hb |-;obtain ⟨T,hT⟩:∃ T,T = (cat xs).length:=⟨_,rfl⟩;rw [<- hT] at hb |-;clear hT;go_wp2_with fail
   refine (HF.out _ T hb).mono ?_;rintro e w1 ⟨rfl,hI,hb1⟩;have hq1:Q w w1:=((Below.refl w.heap.size w).alloc (Nat.le_refl _) _).trans hb1;have hqs1:=hq1.le;obtain ⟨x,hx1⟩:=HG.out 0 (by omega);have c1:=(World.cell?_of_block (w:=w) (a:=⟨g,off,none⟩) (hq1.block hg)).trans (HC.out 0 x hx1);have ht:=HT.out 0 x hx1;have hb0:=HL.out 1;rw [ht,List.length_append,size_list] at hb0;have HTT:=Hd ht;clear ht hx1;go_wp2_with fail
   refine (Bl.write_any _ _ _ x w1 hI (by simp;omega) hqs1).mono ?_;rintro e w2 ⟨rfl,hI2,hb2,_⟩;have hq2:Q w w2:=Below.trans hq1 hb2;have hI3:Bl.Is w.heap.size w.heap.size (Lib.byteCells (cat (xs.take 1))) w2:=by
    rw [HTT.out,List.take_zero];have:=Bl.Is.write (l:=[]) (s:=x) hI2;exact this
   clear hI hI2 hb1 hb2 hq1 hqs1 c1 HTT;go_wp2_with fail
   go_loopw [65] (fun i wr=>∃ j:Nat,i = .int .i64 j /\ j + 1 <= k /\ Bl.Is w.heap.size w.heap.size (Lib.byteCells (cat (xs.take (j + 1)))) wr /\ Q w wr) (fun i _=>k - (intOf i).toNat)
   case atStart=>exact ⟨0,rfl,by omega,hI3,hq2⟩
   case round =>
    obtain ⟨j,rfl,hj,hI,hq⟩:=hrel;have hqs:=hq.le;by_cases hlt:j + 1 < k
    ·obtain ⟨y,hy⟩:=HG.out (j + 1) hlt
     have c1:=(World.cell?_of_block (w:=w) (a:=⟨g,off + (j + 1),none⟩) (hq.block hg)).trans (HC.out (j + 1) y hy);rw [show off + (j + 1) = off + 1 + j from by omega] at c1;have ht:=HT.out (j + 1) y hy;have hb0:=HL.out (j + 1 + 1);rw [ht,List.length_append,size_list] at hb0;have HTT:=Hd ht;have hjk:(j:Int) < (k:Int) - 1:=by omega
     clear ht hy;go_wp2_with fail
     refine (Bl.write_any _ _ _ ⟨#[]⟩ wr hI (by rw [Bl.cells_length];show _ + 0 <= _;omega) hqs).mono ?_;rintro e w3 ⟨rfl,hI4,hb3,_⟩;have hq3:Q w w3:=Below.trans hq hb3;have hqs3:=hq3.le;have hI5:Bl.Is w.heap.size w.heap.size (Lib.byteCells (cat (xs.take (j + 1)))) w3:=by
      have:=Bl.Is.write hI4;rw [show (⟨#[]⟩:ByteArray).data.toList = [] from rfl,List.append_nil] at this;exact this
     clear hI4 c1;go_wp2_with fail
     refine (Bl.write_any _ _ _ y w3 hI5 (by rw [Bl.cells_length];omega) hqs3).mono ?_;rintro e w4 ⟨rfl,hI6,hb4,_⟩;have hq4:Q w w4:=Below.trans hq3 hb4;go_wp2_with fail
     exact ⟨⟨j + 1,by go_num,by omega,by rw [HTT.out];exact hI6.write,hq4⟩,by simp [intOf];omega⟩
    ·have hje:j + 1 = k:=by omega
     rw [hje,HA.out k (Nat.le_refl _)] at hI;have hjk:¬ ((j:Int) < (k:Int) - 1):=by omega
     clear hje;go_wp2_with (go_at_call 49;refine (Bl.done_any _ _ _ _ hI hqs).mono ?_;rintro e w' ⟨rfl,hb2⟩)
     go_ret
     exact ⟨rfl,Below.trans hq hb2⟩
end
section
open Go.RowKit Um
theorem vt {c:Int} (h:0 <= c /\ c <= 1114111 /\ (c < 55296 \/ 57343 < c)):vld c = true:=(vld_iff c).2 h
theorem vf {c:Int} (h:¬ (0 <= c /\ c <= 1114111 /\ (c < 55296 \/ 57343 < c))):vld c = false:=(vld_false c).2 h
theorem may_any (c:Int) (w:World) :
  Calls Tryz.prog 131 #[.int .i64 c] w fun e w'=>e = .returned (.bool (vld c)) /\ w = w':=by
 by_cases h1:0 <= c
 ·by_cases h2:c <= 1114111
  ·by_cases h3:c < 55296
   ·rw [vt ⟨h1,h2,.inl h3⟩]
    go_enter Tryz.func131,Tryz.ntmps131
    go_wp2
    go_ret
    exact ⟨rfl,rfl⟩
   ·by_cases h4:57343 < c
    ·rw [vt ⟨h1,h2,.inr h4⟩]
     go_enter Tryz.func131,Tryz.ntmps131
     go_wp2
     go_ret
     exact ⟨rfl,rfl⟩
    ·rw [vf (by omega)]
     go_enter Tryz.func131,Tryz.ntmps131
     go_wp2
     go_ret
     exact ⟨rfl,rfl⟩
  ·rw [vf (by omega)]
   go_enter Tryz.func131,Tryz.ntmps131
   go_wp2
   go_ret
   exact ⟨rfl,rfl⟩
 ·rw [vf (by omega)]
  go_enter Tryz.func131,Tryz.ntmps131
  go_wp2
  go_ret
  exact ⟨rfl,rfl⟩
theorem encode_any (c:Int) (w:World) :
  Calls Tryz.prog 132 #[.int .i64 c] w fun e w'=>e = .returned (.string (encB c)) /\ w = w':=by
 by_cases hv:vld c = true
 ·have hb:=(vld_iff c).1 hv
  have HE:Hid (encB c = Utf8.encode c):=by unfold encB;exact if_pos hv
  go_enter Tryz.func132,Tryz.ntmps132
  go_wp2_with (go_at_call 131;refine (may_any _ _).mono ?_;rintro e w' ⟨rfl,rfl⟩)
  go_ret
  rw [HE.out];exact ⟨rfl,rfl⟩
 ·have hv:vld c = false:=by simpa using hv
  have HE:Hid (encB c = ⟨#[]⟩):=by unfold encB;exact if_neg (by simp [hv])
  go_enter Tryz.func132,Tryz.ntmps132
  go_wp2_with (go_at_call 131;refine (may_any _ _).mono ?_;rintro e w' ⟨rfl,rfl⟩)
  go_ret
  rw [HE.out];exact ⟨rfl,rfl⟩
theorem ret_bool {a b:Bool} (h:a = b):Ending.returned (.bool a) = .returned (.bool b):=by rw [h]
theorem ret_int {k:IntKind} {a b:Int} (h:a = b):Ending.returned (.int k a) = .returned (.int k b):=by rw [h]
theorem ret_str {a b:ByteArray} (h:a = b):Ending.returned (.string a) = .returned (.string b):=by rw [h]
theorem spoilt_any (s:ByteArray) (r:Int) (w:World) :
  Calls Tryz.prog 64 #[.string s,.int .i32 r] w fun e w'=>e = .returned (.bool (r == 65533 && !Lib.hasPrefix s.data.toList (enc 65533))) /\ w = w':=by
 by_cases hr:r = 65533
 ·subst hr
  go_enter Tryz.func64,Tryz.ntmps64
  go_wp2_with (go_at_call 125;refine (hasPrefix_any _ _ _).mono ?_;rintro e w' ⟨rfl,rfl⟩)
  go_ret
  exact ⟨ret_bool (by simp [enc]),rfl⟩
 ·go_enter Tryz.func64,Tryz.ntmps64
  go_wp2_with fail
  go_ret
  exact ⟨ret_bool (by rw [beq_eq_false_iff_ne.2 hr];rfl),rfl⟩
theorem spoilt_dec (s:ByteArray) (hs:s.data.toList ≠ []) (r:Int) (hr:r = ((dec s.data.toList).1:Nat)) (w:World) :
  Calls Tryz.prog 64 #[.string s,.int .i32 r] w fun e w'=>e = .returned (.bool (spo s.data.toList)) /\ w = w':=by
 refine (spoilt_any s r w).mono ?_;rintro e w' ⟨rfl,rfl⟩;exact ⟨ret_bool (by rw [hr];exact spo_code _ hs),rfl⟩
theorem first_any (s:ByteArray) (w:World) (hm:s.size <= maxLen) :
  Calls Tryz.prog 30 #[.string s] w fun e w'=>e = .returned (.tuple #[.int .i64 (fst3 s.data.toList).1,.int .i64 (fst3 s.data.toList).2.1,.bool (fst3 s.data.toList).2.2]) /\ Q w w':=by
 unfold maxLen at hm;by_cases hs:s.size = 0
 ·have hl:s.data.toList = []:=by apply List.eq_nil_of_length_eq_zero;simpa using hs
  have HF:Hid (fst3 s.data.toList = (0,0,false)):=by rw [hl];rfl
  have hnx:∀ ty,(Instr.next (.pointer (some ⟨w.heap.size,0,none⟩)) true ty).run Tryz.prog (w.iter s 0) = _:=fun ty=>run_next_end w s 0 ty (by omega);clear hl hs;go_enter Tryz.func30,Tryz.ntmps30
  go_wp2
  refine wp_loop_rounds 1 ?_;rw [rounds_succ];go_wp2
  go_ret3
  rw [HF.out];exact ⟨rfl,(Q.refl _).alloc _⟩
 ·have hl:s.data.toList ≠ []:=by intro h;apply hs;have:=congrArg List.length h;simpa using this
  have hp:0 < s.size:=by omega
  have hnx:∀ ty,(Instr.next (.pointer (some ⟨w.heap.size,0,none⟩)) true ty).run Tryz.prog (w.iter s 0) = _:=fun ty=>run_next_any w s 0 ty hp;go_enter Tryz.func30,Tryz.ntmps30
  go_wp2
  refine wp_loop_rounds 1 ?_;rw [rounds_succ];have hd:Utf8.decode s 0 = dec s.data.toList:=by rw [decode_dec];rfl
  have hb:=dec_c _ hl;have hb:=(vld_iff _).1 hb;rw [hd] at hnx;have HD:=Hd hd;clear hd;have hsp:=fun w=>spoilt_dec s hl ((dec s.data.toList).1:Nat) rfl w;cases hc:spo s.data.toList
  ·have HF:Hid (fst3 s.data.toList = (((dec s.data.toList).1:Int),((Utf8.encode ((dec s.data.toList).1:Nat)).size:Int),true)):=Hd (by
    unfold fst3 mrk;rw [if_neg hl,hc];have:(dec s.data.toList).2 = (Utf8.encode ((dec s.data.toList).1:Nat)).size:=by
     obtain ⟨c,r,hv,hr⟩:=(spo_false_iff _ hl).1 hc;rw [hr,dec_enc c r hv];have:=(vld_iff c).1 hv;simp only;rw [show ((c.toNat:Nat):Int) = c from by omega];rfl
    rw [this];simp)
   rw [hc] at hsp;have HS:=Hd hsp;clear hsp hc;go_wp2_with (go_at_call 64;refine (HS.out _).mono ?_;rintro e w' ⟨rfl,rfl⟩)
   go_ret3
   rw [HF.out];exact ⟨rfl,(Q.refl _).alloc _⟩
  ·have HF:Hid (fst3 s.data.toList = (65533,1,false)):=Hd (by
    unfold fst3;rw [if_neg hl,mark_spo _ hc];simp)
   rw [hc] at hsp;have HS:=Hd hsp;clear hsp hc;go_wp2_with (go_at_call 64;refine (HS.out _).mono ?_;rintro e w' ⟨rfl,rfl⟩)
   go_ret3
   rw [HF.out];exact ⟨rfl,(Q.refl _).alloc _⟩
theorem len_any (s:ByteArray) (w:World) (hm:s.size <= maxLen) :
  Calls Tryz.prog 133 #[.string s] w fun e w'=>e = .returned (.int .i64 ((marks s.data.toList).length:Nat)) /\ Q w w':=by
 unfold maxLen at hm;have hml:=marks_length s.data.toList;rw [size_list] at hml;go_enter Tryz.func133,Tryz.ntmps133
 go_wp2
 go_loopw [3] (fun n wr=>∃ pos k:Nat,wr = w.iter s pos /\ n = .int .i64 k /\ k + (marks (s.data.toList.drop pos)).length = (marks s.data.toList).length) (fun _ wr=>s.size - wr.iterPos w.heap.size)
 case atStart=>exact ⟨0,0,rfl,rfl,by simp⟩
 case round =>
  obtain ⟨pos,k,rfl,rfl,hk⟩:=hrel;by_cases hp:pos < s.size
  ·have hkb:k < s.size:=by rw [marks_at s pos hp] at hk;simp only [List.length_cons] at hk;omega
   have HK:=Hd hk;clear hk hml;have hnx:∀ ty,(Instr.next (.pointer (some ⟨w.heap.size,0,none⟩)) true ty).run Tryz.prog (w.iter s pos) = _:=fun ty=>run_next_any w s pos ty hp;rw [decode_at] at hnx;have hwd:=mark_at_n s pos hp;go_wp2
   go_roundw
   case rel=>exact ⟨_,k + 1,rfl,by go_num,by have:=HK.out;rw [marks_at s pos hp] at this;simp only [List.length_cons] at this;omega⟩
   case measure=>simp;omega
  ·have hnx:∀ ty,(Instr.next (.pointer (some ⟨w.heap.size,0,none⟩)) true ty).run Tryz.prog (w.iter s pos) = _:=fun ty=>run_next_end w s pos ty hp
   have HK:=Hd hk;clear hk hml;go_wp2
   go_ret
   have hk:=HK.out;rw [marks_end s pos hp] at hk;exact ⟨ret_int (by simp at hk;omega),(Q.refl _).alloc _⟩
theorem extract_list (s:ByteArray) (pos:Nat):(s.extract pos s.size).data.toList = s.data.toList.drop pos:=by
 rw [ByteArray.data_extract,Array.toList_extract];have:s.size = s.data.toList.length:=(size_list s).symm;rw [List.extract_eq_take_drop,this,List.take_of_length_le (by simp)]
theorem valid_any (s:ByteArray) (w:World) (hm:s.size <= maxLen) :
  Calls Tryz.prog 173 #[.string s] w fun e w'=>e = .returned (.bool (okL s.data.toList)) /\ Q w w':=by
 unfold maxLen at hm;go_enter Tryz.func173,Tryz.ntmps173
 go_wp2
 go_loopw [] (fun wr=>∃ pos:Nat,wr = w.iter s pos /\ (marks (s.data.toList.drop pos)).all (·.2.2) = okL s.data.toList) (fun wr=>s.size - wr.iterPos w.heap.size)
 case atStart=>exact ⟨0,rfl,rfl⟩
 case round =>
  obtain ⟨pos,rfl,hk⟩:=hrel;have HK:=Hd hk;clear hk;by_cases hp:pos < s.size
  ·have hnx:∀ ty,(Instr.next (.pointer (some ⟨w.heap.size,0,none⟩)) true ty).run Tryz.prog (w.iter s pos) = _:=fun ty=>run_next_any w s pos ty hp
   rw [decode_at] at hnx;have hwd:=mark_at_n s pos hp;have hx:=extract_list s pos;have hne:=drop_ne hp;rw [<- hx] at hne;have hsp:=fun w=>spoilt_dec (s.extract pos s.size) hne ((dec (s.data.toList.drop pos)).1:Nat) (by rw [hx]) w;rw [hx] at hsp;clear hx hne;cases hc:spo (s.data.toList.drop pos);all_goals
    rw [hc] at hsp;have HS:=Hd hsp;have HC:=Hd hc;clear hsp hc;go_wp2_with (go_at_call 64;refine (HS.out _).mono ?_;rintro e w' ⟨rfl,rfl⟩)
   ·go_roundw
    case rel =>
     refine ⟨_,rfl,?_⟩;have:=HK.out;rw [marks_at s pos hp,List.all_cons] at this;have h2:(mrk (s.data.toList.drop pos)).2.2 = true:=by unfold mrk;rw [HC.out];rfl
     rw [h2] at this;simpa using this
    case measure=>simp;omega
   ·go_ret
    have:=HK.out;rw [marks_at s pos hp,List.all_cons] at this;have h2:(mrk (s.data.toList.drop pos)).2.2 = false:=by unfold mrk;rw [HC.out];rfl
    rw [h2] at this;exact ⟨ret_bool (by simpa using this),(Q.refl _).alloc _⟩
  ·have hnx:∀ ty,(Instr.next (.pointer (some ⟨w.heap.size,0,none⟩)) true ty).run Tryz.prog (w.iter s pos) = _:=fun ty=>run_next_end w s pos ty hp
   go_wp2
   go_ret
   have hk:=HK.out;rw [marks_end s pos hp] at hk;exact ⟨ret_bool (by simpa using hk),(Q.refl _).alloc _⟩
theorem toList_eq (s:ByteArray):s.toList = s.data.toList:=ByteArray.toList_eq s
theorem all_any (s:ByteArray) (w:World) (hm:s.size <= 1073741824) :
  Calls Tryz.prog 79 #[.string s] w fun e w'=>∃ v,e = .returned v /\ Own w' w.heap.size v (allL s.data.toList) /\ Q w w':=by
 obtain ⟨i0,hi,hz0,hz1,hz2⟩:=info_parts infoInt;have hml:=marks_length s.data.toList;rw [size_list] at hml;go_enter Tryz.func79,Tryz.ntmps79
 go_wp2_with fail
 refine (len_any _ _ (by unfold maxLen;omega)).mono ?_;rintro e w1 ⟨rfl,hq1⟩;have hs1:=hq1.le;go_wp2_with (at_make;refine wpList_make_own _ rfl _ _ 41 rfl w.heap.size 3 i0 (.int .i64 0) 1 Tryz.underlying41 hi hz0 hz1 .i64 .i64 _ (marks s.data.toList).length rfl rfl rfl (by rw [hz2];omega) (by unfold maxLen;omega) hs1 ?_;intro w2 hown2 hg2)
 have hq2:Q w w2:=hq1.grown hg2 (fun k h=>by cases h);have hown2:Own w2 w.heap.size (.slice (some ⟨w1.heap.size,0,none⟩) 0 (marks s.data.toList).length) []:=hown2;have hs2:=hq2.le;go_wp2
 go_loopw [3] (fun v wr=>∃ (pos:Nat) (acc:List Int),Own wr w.heap.size v acc /\ wr.heap[w2.heap.size]? = some (.stringIter s pos) /\ Q w wr /\ acc ++ allL (s.data.toList.drop pos) = allL s.data.toList)
  (fun _ wr=>s.size - wr.iterPos w2.heap.size)
 case atStart=>exact ⟨0,[],hown2.q ((Q.refl _).alloc _),World.iter_heap w2 s 0,hq2.alloc _,by simp⟩
 case round =>
  obtain ⟨pos,acc,hown,hit,hq,hacc⟩:=hrel;have hk0:w2.heap.size < wr.heap.size:=(Array.getElem?_eq_some_iff.1 hit).1;have hsq:=hq.le;by_cases hp:pos < s.size
  ·have hnx:∀ ty,(Instr.next (.pointer (some ⟨w2.heap.size,0,none⟩)) true ty).run Tryz.prog wr = _:=fun ty=>Lib.run_next_any_at wr w2.heap.size s pos ty hit hp
   rw [decode_at] at hnx;have hwd:=mark_at_n s pos hp;have hcb:=(vld_iff _).1 (dec_c _ (drop_ne hp));have hal:acc.length < 1073741824:=by
    have h1:=congrArg List.length hacc;simp only [allL,List.length_append,List.length_map] at h1;rw [marks_at s pos hp] at h1;simp only [List.length_cons] at h1;omega
   have hown3:=hown.iterAt hit (pos + (mrk (s.data.toList.drop pos)).2.1);have hit3:=Lib.iterAt_heap wr w2.heap.size s pos (pos + (mrk (s.data.toList.drop pos)).2.1) hit;have hq3:=hq.iterAt (k:=w2.heap.size) hs2 s (pos + (mrk (s.data.toList.drop pos)).2.1);have hs3:=hq3.le;have HA:=Hd hacc;clear hacc hml;go_wp2_with (at_builtin;refine push_int hown3 rfl _ _ rfl _ (by rfl) (by rfl) (by omega) hs3 ?_;intro v' w4 hown4 hg4 hat4)
   have hit4:=iter_grown hown3 hg4 hit3;go_roundw
   case rel =>
    refine ⟨_,_,hown4,hit4,hq3.grown hg4 (fun g h=>(hown3.lt g h).1),?_⟩;have:=HA.out;unfold allL at this |-;rw [marks_at s pos hp] at this;rw [<- this];simp [mrk]
   case measure =>
    rw [iterPos_of hit4,iterPos_of hit];omega
  ·have hnx:∀ ty,(Instr.next (.pointer (some ⟨w2.heap.size,0,none⟩)) true ty).run Tryz.prog wr = _:=fun ty=>Lib.run_next_end_at wr w2.heap.size s pos ty hit hp
   have HA:=Hd hacc;clear hacc hml;go_wp2
   go_ret
   refine ⟨_,rfl,?_,hq⟩;have:=HA.out;unfold allL at this;rw [marks_end s pos hp,List.map_nil,List.append_nil] at this;unfold allL;rw [<- this];exact hown
end
namespace Tm
open Dm
structure T where
 g:Bool
 i:List Int
 s:Bool
 f:List Int
def T0:T:=⟨false,[],false,[]⟩
def may (d:T):Bool:=okB d.i && okB d.f && (d.s || d.f.isEmpty)
def sep (s:Bool):List Int:=if s then [10] else []
theorem sep_len (s:Bool):(sep s).length <= 1:=by cases s <;> simp [sep]
def ats (d:T):List Int:=d.i ++ sep d.s ++ d.f
theorem ats_len (d:T):(ats d).length = d.i.length + (sep d.s).length + d.f.length:=by simp [ats];omega
def okA (l:List Int):Bool:=l.all fun d=>decide (0 <= d /\ d <= 10)
theorem okA_iff (l:List Int):okA l = true ↔ ∀ d ∈ l,0 <= d /\ d <= 10:=by simp [okA]
def ahd (l:List Int):List Int:=l.takeWhile fun x=>!(x == 10)
def bhd (l:List Int):List Int:=(l.dropWhile fun x=>!(x == 10)).drop 1
def has (l:List Int):Bool:=l.any fun x=>x == 10
theorem ahd_cons (x:Int) (l:List Int):ahd (x :: l) = if x = 10 then [] else x :: ahd l:=by
 unfold ahd;by_cases h:x = 10
 ·subst h;rw [List.takeWhile_cons_of_neg (by simp),if_pos rfl]
 ·rw [List.takeWhile_cons_of_pos (by simpa using h),if_neg h]
theorem bhd_cons (x:Int) (l:List Int):bhd (x :: l) = if x = 10 then l else bhd l:=by
 unfold bhd;by_cases h:x = 10
 ·subst h;rw [List.dropWhile_cons_of_neg (by simp),if_pos rfl];rfl
 ·rw [List.dropWhile_cons_of_pos (by simpa using h),if_neg h]
theorem has_cons (x:Int) (l:List Int):has (x :: l) = (x == 10 || has l):=rfl
theorem parts (l:List Int):ahd l ++ sep (has l) ++ bhd l = l:=by
 induction l with
 | nil=>rfl
 | cons x l ih =>
  rw [ahd_cons,bhd_cons,has_cons];by_cases h:x = 10
  ·subst h;simp [sep]
  ·rw [if_neg h,if_neg h,show (x == 10) = false from by simpa using h,Bool.false_or,List.cons_append,List.cons_append,ih]
theorem has_no (l:List Int) (h:has l = false):ahd l = l /\ bhd l = []:=by
 induction l with
 | nil=>exact ⟨rfl,rfl⟩
 | cons x l ih =>
  rw [has_cons,Bool.or_eq_false_iff] at h;have hx:¬ x = 10:=by simpa using h.1
  rw [ahd_cons,bhd_cons,if_neg hx,if_neg hx,(ih h.2).1,(ih h.2).2];exact ⟨rfl,rfl⟩
def cnt (l:List Int):Nat:=(l.filter fun x=>x == 10).length
theorem cnt_le (l:List Int):cnt l <= l.length:=List.length_filter_le _ _
theorem cnt_nil:cnt [] = 0:=rfl
theorem cnt_has (l:List Int):cnt l = 0 ↔ has l = false:=by
 unfold cnt has;rw [List.length_eq_zero_iff,List.filter_eq_nil_iff,List.any_eq_false]
theorem cnt_parts (l:List Int):cnt l = (if has l = true then 1 else 0) + cnt (bhd l):=by
 induction l with
 | nil=>rfl
 | cons x l ih =>
  rw [bhd_cons,has_cons];by_cases h:x = 10
  ·subst h;simp [cnt];omega
  ·have e:cnt (x :: l) = cnt l:=by unfold cnt;rw [List.filter_cons_of_neg (by simpa using h)]
   rw [if_neg h,e,ih,show (x == 10) = false from by simpa using h,Bool.false_or]
theorem cnt_two (l:List Int):(1 < cnt l) ↔ has (bhd l) = true:=by
 have h1:=cnt_parts l;have h2:=cnt_has (bhd l);by_cases h:has l = true
 ·rw [if_pos h] at h1
  constructor
  ·intro hc
   cases hb:has (bhd l) with
   | true=>rfl
   | false=>have:=h2.2 hb;omega
  ·intro hb
   have:¬ cnt (bhd l) = 0:=fun e=>by rw [h2.1 e] at hb;cases hb
   omega
 ·have hn:=has_no l (by simpa using h)
  rw [if_neg h] at h1;rw [hn.2] at h1 |-;simp only [cnt_nil] at h1;simp [has];omega
def ofD (g:Bool) (l:List Int):T:=⟨g,ahd l,has l,bhd l⟩
def ofC (l:List Int):Int:=if okA l = true then (if has (bhd l) = true then 6 else 0) else 1
def ofR (g:Bool) (l:List Int):T:=if ofC l = 0 then ofD g l else T0
theorem ofC_two {l:List Int} (h:okA l = true) (h2:has (bhd l) = true):ofC l = 6:=by unfold ofC;rw [if_pos h,if_pos h2]
theorem ofC_ok {l:List Int} (h:okA l = true) (h2:has (bhd l) = false):ofC l = 0:=by unfold ofC;rw [if_pos h,h2];rfl
theorem ofR_ok {g:Bool} {l:List Int} (h:okA l = true) (h2:has (bhd l) = false):ofR g l = ofD g l:=by unfold ofR;rw [ofC_ok h h2];rfl
theorem ats_of (g:Bool) (l:List Int):ats (ofD g l) = l:=parts l
theorem okA_append (a b:List Int):okA (a ++ b) = (okA a && okA b):=by simp [okA]
theorem ten_no (l:List Int) (h:okD l):has l = false:=by
 unfold has;rw [List.any_eq_false];intro x hx;have:=h x hx;simp;omega
theorem okA_dig (l:List Int) (h:okD l):okA l = true:=(okA_iff l).2 fun d hd=>by have:=h d hd;omega
theorem may_dig {d:T} (h:may d = true):okD d.i /\ okD d.f /\ (d.s = false -> d.f = []):=by
 simp only [may,Bool.and_eq_true,Bool.or_eq_true] at h;refine ⟨(okB_iff _).1 h.1.1,(okB_iff _).1 h.1.2,fun hs=>?_⟩;rcases h.2 with h2 | h2
 ·rw [hs] at h2;cases h2
 ·simpa using h2
theorem okA_ats {d:T} (h:may d = true):okA (ats d) = true:=by
 obtain ⟨h1,h2,_⟩:=may_dig h;unfold ats;rw [okA_append,okA_append,okA_dig _ h1,okA_dig _ h2];cases d.s <;> rfl
theorem may_of (g:Bool) (l:List Int) (h:okA l = true) (h2:has (bhd l) = false):may (ofD g l) = true:=by
 have hp:=parts l;have ho:=(okA_iff l).1 h;rw [<- hp] at ho;have hd1:okD (ahd l):=fun d hd=>by
  have h3:=ho d (by simp [hd]);have h4:(!(d == 10)) = true:=List.all_eq_true.1 (List.all_takeWhile (l:=l) (p:=fun x=>!(x == 10))) d hd;have:¬ d = 10:=by simpa using h4
  omega
 have hd2:okD (bhd l):=fun d hd=>by
  have h3:=ho d (by simp [hd]);have h4:=List.any_eq_false.1 h2 d hd;have:¬ d = 10:=by simpa using h4
  omega
 unfold may ofD;dsimp only;rw [(okB_iff _).2 hd1,(okB_iff _).2 hd2,Bool.true_and,Bool.true_and];cases h4:has l with
 | true=>rfl
 | false=>rw [(has_no l h4).2];rfl
def spl (d:T) (i j:Int) (A:List Int):List Int:=(ats d).take i.toNat ++ A ++ (ats d).drop j.toNat
def spC (d:T) (i j:Int) (A:List Int):Int:=if (may d && okA A) = true then (if i < 0 \/ j < i \/ ((ats d).length:Int) < j then 3 else ofC (spl d i j A)) else 1
def spR (d:T) (i j:Int) (A:List Int):T:=if spC d i j A = 0 then ofD d.g (spl d i j A) else T0
theorem spC_in {d:T} {i j:Int} {A:List Int} (h:(may d && okA A) = true) (h2:¬ (i < 0 \/ j < i \/ ((ats d).length:Int) < j)):spC d i j A = ofC (spl d i j A) /\ spR d i j A = ofR d.g (spl d i j A):=by
 have e:spC d i j A = ofC (spl d i j A):=by unfold spC;rw [if_pos h,if_neg h2]
 exact ⟨e,by unfold spR ofR;rw [e]⟩
theorem back (g:Bool) (I:List Int) (i:Nat) (A:List Int) (hI:okD I) (hi:i <= I.length) (hA:okA A = true) :
  spC ⟨g,I,false,[]⟩ i i A = (if 1 < cnt A then 6 else 0) /\
  (cnt A <= 1 -> spR ⟨g,I,false,[]⟩ i i A = ofD g (I.take i ++ A ++ I.drop i) /\ (ats (spR ⟨g,I,false,[]⟩ i i A)).length = I.length + A.length /\ may (spR ⟨g,I,false,[]⟩ i i A) = true /\
   spC (spR ⟨g,I,false,[]⟩ i i A) i (i + A.length:Nat) [] = 0 /\ spR (spR ⟨g,I,false,[]⟩ i i A) i (i + A.length:Nat) [] = ⟨g,I,false,[]⟩):=by
 have hm:may ⟨g,I,false,[]⟩ = true:=by unfold may;dsimp only;rw [(okB_iff I).2 hI];rfl
 have ha:ats ⟨g,I,false,[]⟩ = I:=by simp [ats,sep]
 have hsp:spl ⟨g,I,false,[]⟩ i i A = I.take i ++ A ++ I.drop i:=by unfold spl;rw [ha];rfl
 have h1:=spC_in (d:=⟨g,I,false,[]⟩) (i:=i) (j:=i) (A:=A) (by rw [hm,hA];rfl) (by rw [ha];omega);rw [hsp] at h1;have hok:okA (I.take i ++ A ++ I.drop i) = true:=by
  rw [okA_append,okA_append,hA,okA_dig _ (okD_take hI i),okA_dig _ (okD_drop hI i)];rfl
 have hc:cnt (I.take i ++ A ++ I.drop i) = cnt A:=by
  have e1:=(cnt_has _).2 (ten_no _ (okD_take hI i));have e2:=(cnt_has _).2 (ten_no _ (okD_drop hI i));unfold cnt at *;rw [List.filter_append,List.filter_append,List.length_append,List.length_append,e1,e2];omega
 have h2:=cnt_two (I.take i ++ A ++ I.drop i);rw [hc] at h2;have hl:(I.take i ++ A ++ I.drop i).length = I.length + A.length:=by
  simp only [List.length_append,List.length_take,List.length_drop];omega
 by_cases hh:1 < cnt A
 ·refine ⟨by rw [h1.1,ofC_two hok (h2.1 hh),if_pos hh],fun h=>absurd hh (by omega)⟩
 ·have hb:has (bhd (I.take i ++ A ++ I.drop i)) = false:=by
   cases h3:has (bhd (I.take i ++ A ++ I.drop i)) with
   | false=>rfl
   | true=>exact absurd (h2.2 h3) hh
  refine ⟨by rw [h1.1,ofC_ok hok hb,if_neg hh],fun _=>?_⟩;have hR:spR ⟨g,I,false,[]⟩ i i A = ofD g (I.take i ++ A ++ I.drop i):=by rw [h1.2,ofR_ok hok hb]
  rw [hR];refine ⟨rfl,by rw [ats_of,hl],may_of g _ hok hb,?_⟩;have hm2:=may_of g _ hok hb;have ha2:=ats_of g (I.take i ++ A ++ I.drop i);have h4:=spC_in (d:=ofD g (I.take i ++ A ++ I.drop i)) (i:=i) (j:=(i + A.length:Nat)) (A:=[]) (by rw [hm2];rfl) (by rw [ha2,hl];omega);have hs2:spl (ofD g (I.take i ++ A ++ I.drop i)) i (i + A.length:Nat) [] = I:=by
   unfold spl;rw [ha2,Int.toNat_natCast,Int.toNat_natCast,List.append_nil];have e1:(I.take i).length = i:=by rw [List.length_take];omega
   have e2:(I.take i ++ A ++ I.drop i).take i = I.take i:=by
    rw [List.append_assoc,List.take_append_of_le_length (by omega)];conv=>lhs;lhs;rw [<- e1]
    rw [e1,List.take_of_length_le (by omega)]
   have e3:(I.take i ++ A ++ I.drop i).drop (i + A.length) = I.drop i:=by
    have:(I.take i ++ A).length = i + A.length:=by rw [List.length_append,e1]
    rw [<- this,List.drop_left]
   rw [e2,e3,List.take_append_drop]
  rw [hs2] at h4;have hn:=has_no I (ten_no I hI);have hbI:has (bhd I) = false:=by rw [hn.2];rfl
  refine ⟨by rw [h4.1,ofC_ok (okA_dig I hI) hbI],?_⟩;rw [h4.2,ofR_ok (okA_dig I hI) hbI];unfold ofD;rw [hn.1,hn.2,ten_no I hI]
end Tm
end Go.Proofs.YteggfkbnnmpcjaaGreatDoor
