/- Patterns of numbers, as plain mathematics: what a text's characters are, halves, numbers, a pattern. (and more) -/
import Derived.Test.YtdjhkbholijnmaaGreatDoorR01
import Derived.Sort.KeysCollected
import Derived.Shelf.RegionOpen
import Derived.Laws.BytesArg
import Derived.Deep.SlicePairs
set_option linter.all false
set_option maxRecDepth 100000
set_option maxHeartbeats 8000000
namespace Go.Proofs.YtdjhkbholijnmaaGreatDoor
section
namespace Pt
open Um
def kindC (c:Int):Int :=
 if c = 164 then 1 else if c = 37 then 2 else if c = 45 then 3
 else if c = 35 \/ c = 48 \/ c = 44 \/ c = 46 then 4
 else if c = 59 then 5
 else if (49 <= c /\ c <= 57) \/ c = 64 \/ c = 42 \/ c = 43 \/ c = 69 then 6 else 0
def tokS:Bool -> Bool -> List Int -> Option (List (Int × Int))
 | q,p,[]=>if (q != p) = true then none else some []
 | q,p,c :: r =>
  if c = 39 then (if p = true then (tokS q false r).map ((0,39) :: ·) else tokS q true r)
  else if (q != p) = true then (tokS true false r).map ((0,c) :: ·)
  else if kindC c = 6 then none
  else (tokS false false r).map ((kindC c,c) :: ·)
def tkn (cs:List Int):Option (List (Int × Int)):=tokS false false cs
def outS:Bool -> Bool -> List Int -> Option (List (Int × Int) × Bool × Bool)
 | q,p,[]=>some ([],q,p)
 | q,p,c :: r =>
  if c = 39 then (if p = true then (outS q false r).map (fun x=>((0,39) :: x.1,x.2)) else outS q true r)
  else if (q != p) = true then (outS true false r).map (fun x=>((0,c) :: x.1,x.2))
  else if kindC c = 6 then none
  else (outS false false r).map (fun x=>((kindC c,c) :: x.1,x.2))
theorem tokS_cons (q p:Bool) (c:Int) (r:List Int):tokS q p (c :: r) = if c = 39 then (if p = true then (tokS q false r).map ((0,39) :: ·) else tokS q true r) else if (q != p) = true then (tokS true false r).map ((0,c) :: ·) else if kindC c = 6 then none else (tokS false false r).map ((kindC c,c) :: ·):=rfl
theorem outS_cons (q p:Bool) (c:Int) (r:List Int):outS q p (c :: r) = if c = 39 then (if p = true then (outS q false r).map (fun x=>((0,39) :: x.1,x.2)) else outS q true r) else if (q != p) = true then (outS true false r).map (fun x=>((0,c) :: x.1,x.2)) else if kindC c = 6 then none else (outS false false r).map (fun x=>((kindC c,c) :: x.1,x.2)):=rfl
theorem tok_append (a b:List Int):∀ (q p:Bool),tokS q p (a ++ b) = (outS q p a).bind fun x=>(tokS x.2.1 x.2.2 b).map (x.1 ++ ·):=by
 induction a with
 | nil=>intro q p;simp [outS]
 | cons c r ih =>
  intro q p;rw [List.cons_append];rw [tokS_cons,outS_cons];by_cases h1:c = 39
  ·rw [if_pos h1,if_pos h1]
   cases p
   ·simp only [Bool.false_eq_true,if_false]
    exact ih q true
   ·simp only [if_true]
    rw [ih q false];cases outS q false r with
    | none=>rfl
    | some x=>simp [Option.map_map,Function.comp_def]
  ·rw [if_neg h1,if_neg h1]
   by_cases h2:(q != p) = true
   ·rw [if_pos h2,if_pos h2,ih true false]
    cases outS true false r with
    | none=>rfl
    | some x=>simp [Option.map_map,Function.comp_def]
   ·rw [if_neg h2,if_neg h2]
    by_cases h3:kindC c = 6
    ·rw [if_pos h3,if_pos h3];rfl
    ·rw [if_neg h3,if_neg h3,ih false false]
     cases outS false false r with
     | none=>rfl
     | some x=>simp [Option.map_map,Function.comp_def]
theorem out_append (a b:List Int):∀ (q p:Bool),outS q p (a ++ b) = (outS q p a).bind fun x=>(outS x.2.1 x.2.2 b).map fun y=>(x.1 ++ y.1,y.2):=by
 induction a with
 | nil=>intro q p;simp [outS]
 | cons c r ih =>
  intro q p;rw [List.cons_append];rw [outS_cons,outS_cons];by_cases h1:c = 39
  ·rw [if_pos h1,if_pos h1]
   cases p
   ·simp only [Bool.false_eq_true,if_false]
    exact ih q true
   ·simp only [if_true]
    rw [ih q false];cases outS q false r with
    | none=>rfl
    | some x=>simp [Option.map_map,Function.comp_def]
  ·rw [if_neg h1,if_neg h1]
   by_cases h2:(q != p) = true
   ·rw [if_pos h2,if_pos h2,ih true false]
    cases outS true false r with
    | none=>rfl
    | some x=>simp [Option.map_map,Function.comp_def]
   ·rw [if_neg h2,if_neg h2]
    by_cases h3:kindC c = 6
    ·rw [if_pos h3,if_pos h3];rfl
    ·rw [if_neg h3,if_neg h3,ih false false]
     cases outS false false r with
     | none=>rfl
     | some x=>simp [Option.map_map,Function.comp_def]
theorem tok_out (cs:List Int) (q p:Bool):tokS q p cs = (outS q p cs).bind fun x=>if (x.2.1 != x.2.2) = true then none else some x.1:=by
 have:=tok_append cs [] q p;rw [List.append_nil] at this;rw [this];cases outS q p cs with
 | none=>rfl
 | some x =>
  simp only [Option.bind_some,tokS];split <;> simp
def encL (c:Int):List UInt8:=(encB c).data.toList
def joinT:List UInt8 -> List (Int × Int) -> List (Int × List UInt8)
 | t,[]=>if t = [] then [] else [(0,t)]
 | t,x :: r=>if x.1 = 0 then joinT (t ++ encL x.2) r else (if t = [] then [] else [(0,t)]) ++ (x.1,[]) :: joinT [] r
structure NS where
 point:Bool
 since:Int
 group:Int
 commas:Int
 whole:Int
 zeros:Int
 minF:Int
 maxF:Int
deriving DecidableEq
def numS:NS -> List Int -> Option NS
 | n,[]=>some n
 | n,c :: r =>
  if c = 46 then (if n.point = true \/ n.whole = 0 \/ (0 < n.commas /\ n.since = 0) then none else numS { n with point:=true } r)
  else if n.point = true then (if c = 44 \/ (c = 48 /\ n.minF < n.maxF) then none else numS { n with maxF:=n.maxF + 1,minF:=if c = 48 then n.minF + 1 else n.minF } r)
  else if c = 44 then (if n.since = 0 then none else numS { n with group:=n.since,since:=0,commas:=n.commas + 1 } r)
  else if c = 35 /\ 0 < n.zeros then none
  else numS { n with zeros:=if c = 48 then n.zeros + 1 else n.zeros,whole:=n.whole + 1,since:=n.since + 1 } r
def ns0:NS:=⟨false,0,0,0,0,0,0,0⟩
structure Nm where
 pr:Int
 se:Int
 mi:Int
 mf:Int
 xf:Int
 long:Bool
deriving DecidableEq
def numE (n:NS):Option Nm :=
 if n.whole = 0 \/ n.since = 0 \/ (n.point = true /\ n.maxF = 0) then none
 else some ⟨if 0 < n.commas then n.since else 0,if 1 < n.commas then n.group else if 0 < n.commas then n.since else 0,n.zeros,n.minF,n.maxF,decide (64 < n.whole \/ 64 < n.maxF)⟩
def num (cs:List Int):Option Nm:=(numS ns0 cs).bind numE
abbrev Pc:=Int × List UInt8
structure Hf where
 pre:List Pc
 suf:List Pc
 nm:Nm
deriving DecidableEq
def isN (x:Int × Int):Bool:=x.1 == 4
def half (l:List (Int × Int)):Option Hf :=
 let r:=l.dropWhile fun x=>!isN x
 let s:=r.dropWhile isN
 if s.any isN = true then none
 else (num ((r.takeWhile isN).map (·.2))).map fun n=>⟨joinT [] (l.takeWhile fun x=>!isN x),joinT [] s,n⟩
structure Pat where
 pre:List Pc
 suf:List Pc
 npre:List Pc
 nsuf:List Pc
 pr:Int
 se:Int
 mi:Int
 mf:Int
 xf:Int
deriving DecidableEq
def pat0:Pat:=⟨[],[],[],[],0,0,0,0,0⟩
def isD (x:Int × Int):Bool:=x.1 == 5
def mkP (h:Hf) (np ns:List Pc):Pat:=⟨h.pre,h.suf,np,ns,h.nm.pr,h.nm.se,h.nm.mi,h.nm.mf,h.nm.xf⟩
def parseT (l:List (Int × Int)):Pat × Int :=
 match half (l.takeWhile fun x=>!isD x) with
 | none=>(pat0,2)
 | some h =>
  match l.dropWhile fun x=>!isD x with
  | []=>if h.nm.long = true then (pat0,3) else (mkP h ((3,[]) :: h.pre) h.suf,0)
  | _ :: r =>
   if r.any isD = true then (pat0,2)
   else match half r with
    | none=>(pat0,2)
    | some k=>if (h.nm.long || k.nm.long) = true then (pat0,3) else (mkP h k.pre k.suf,0)
def parseC (cs:List Int):Pat × Int:=match tkn cs with
 | none=>(pat0,2)
 | some l=>parseT l
/-! ### texts that are made of any -/
def sgn:List (List Int):=[[97],[164],[37],[45],[39,35,39],[39,39],[160],[101,769],[39,46,59,39],[120,39,121,39]]
def sgL (l:List Int):List Int:=(l.take 5).flatMap fun n=>sgn.getD (around n 10).toNat []
def whl (n zeros p q:Int):Nat -> List Int
 | 0=>[]
 | i + 1=>(if (i + 1:Int) < n /\ ((i + 1:Int) = p \/ (0 < p /\ 0 < q /\ (i + 1:Int) = p + q)) then [44] else []) ++ (if (i + 1:Int) <= zeros then 48 else 35) :: whl n zeros p q i
def nmT (zeros p q a b:Nat):List Int :=
 let n:Nat:=max zeros (p + q + 1)
 whl n zeros p q n ++ (if 0 < a + b then 46 :: ([48,48,48].take a ++ [35,35,35].take b) else [])
def okT (l:List (Int × Int)):Prop:=∀ x ∈ l,0 <= x.1 /\ x.1 <= 3
theorem sgn_out:∀ i,i < 10 -> ∀ b:Bool,∃ l c,outS b b (sgn.getD i []) = some (l,c,c) /\ okT l:=by
 intro i hi b;have h:∀ i,i < 10 -> ∀ b:Bool,(match outS b b (sgn.getD i []) with | none=>false | some (l,c,d)=>(c == d) && l.all fun x=>decide (0 <= x.1 /\ x.1 <= 3)) = true:=by decide +kernel
 have:=h i hi b;cases ho:outS b b (sgn.getD i []) with
 | none=>rw [ho] at this;cases this
 | some x =>
  obtain ⟨l,c,d⟩:=x;rw [ho] at this;simp only [Bool.and_eq_true,beq_iff_eq,List.all_eq_true,decide_eq_true_eq] at this;exact ⟨l,c,by rw [this.1],this.2⟩
theorem flat_out (ls:List (List Int)) (h:∀ s ∈ ls,∀ b:Bool,∃ l c,outS b b s = some (l,c,c) /\ okT l):∀ b:Bool,∃ l c,outS b b ls.flatten = some (l,c,c) /\ okT l:=by
 induction ls with
 | nil=>intro b;exact ⟨[],b,rfl,fun x hx=>absurd hx List.not_mem_nil⟩
 | cons s r ih =>
  intro b;obtain ⟨l1,c1,h1,k1⟩:=h s List.mem_cons_self b;obtain ⟨l2,c2,h2,k2⟩:=ih (fun t ht=>h t (List.mem_cons_of_mem _ ht)) c1;refine ⟨l1 ++ l2,c2,?_,fun x hx=>?_⟩
  ·rw [List.flatten_cons,out_append,h1]
   simp [h2]
  ·rcases List.mem_append.1 hx with hx | hx
   ·exact k1 x hx
   ·exact k2 x hx
theorem sgL_out (l:List Int) (b:Bool):∃ t c,outS b b (sgL l) = some (t,c,c) /\ okT t:=by
 unfold sgL;rw [List.flatMap_def];refine flat_out _ (fun s hs=>?_) b;obtain ⟨n,_,rfl⟩:=List.mem_map.1 hs;have:=around_bd n 10 (by omega);exact sgn_out _ (by omega)
end Pt
end
section
namespace Sm
open Um
def tab:List (List UInt8 × Int):=[
 ([97,114,97,98],1632),
 ([97,114,97,98,101,120,116],1776),
 ([98,101,110,103],2534),
 ([100,101,118,97],2406),
 ([102,117,108,108,119,105,100,101],65296),
 ([103,117,106,114],2790),
 ([103,117,114,117],2662),
 ([107,104,109,114],6112),
 ([107,110,100,97],3302),
 ([108,97,111,111],3792),
 ([108,97,116,110],48),
 ([109,97,116,104,115,97,110,98],120812),
 ([109,108,121,109],3430),
 ([109,111,110,103],6160),
 ([109,121,109,114],4160),
 ([111,114,121,97],2918),
 ([116,97,109,108,100,101,99],3046),
 ([116,101,108,117],3174),
 ([116,104,97,105],3664),
 ([116,105,98,116],3872)]
def nzF:List (List UInt8 × Int) -> List UInt8 -> Int
 | [],_=>-1
 | p :: r,x=>if p.1 = x then p.2 else nzF r x
theorem nzF_cons (p:List UInt8 × Int) (r:List (List UInt8 × Int)) (x:List UInt8):nzF (p :: r) x = if p.1 = x then p.2 else nzF r x:=rfl
def nz (x:List UInt8):Int:=nzF tab x
def nmL:List (List UInt8):=tab.map (·.1)
def nmB:List ByteArray:=nmL.map fun l=>⟨l.toArray⟩
def zrs:List Int:=tab.map (·.2)
def vl (z c:Int):Int:=if z <= c /\ c <= z + 9 then c - z else -1
def ofF:List (List UInt8 × Int) -> Int -> List UInt8 × Int
 | [],_=>([],-1)
 | p :: r,c=>if p.2 <= c /\ c <= p.2 + 9 then (p.1,c - p.2) else ofF r c
def ofC (c:Int):List UInt8 × Int:=ofF tab c
def idx (n:Int):Nat:=(around n 20).toNat
def nm (n:Int):List UInt8:=nmL.getD (idx n) []
theorem tab_len:tab.length = 20:=rfl
theorem nmL_len:nmL.length = 20:=rfl
theorem tab_bd:∀ p ∈ tab,48 <= p.2 /\ p.2 <= 120812 /\ (p.2 + 9 < 55296 \/ 57343 < p.2) /\ p.1.length <= 8:=by decide
theorem nzF_cases (l:List (List UInt8 × Int)) (x:List UInt8):(nzF l x = -1 /\ ∀ p ∈ l,p.1 ≠ x) \/ (x,nzF l x) ∈ l:=by
 induction l with
 | nil=>exact .inl ⟨rfl,fun p hp=>absurd hp List.not_mem_nil⟩
 | cons q r ih =>
  unfold nzF;by_cases h:q.1 = x
  ·rw [if_pos h]
   exact .inr (by rw [<- h];exact List.mem_cons_self)
  ·rw [if_neg h]
   rcases ih with ⟨h1,h2⟩ | h1
   ·exact .inl ⟨h1,fun p hp=>by
     rcases List.mem_cons.1 hp with rfl | hp
     ·exact h
     ·exact h2 p hp⟩
   ·exact .inr (List.mem_cons_of_mem _ h1)
theorem nz_cases (x:List UInt8):(nz x = -1 /\ x ∉ nmL) \/ (x,nz x) ∈ tab:=by
 rcases nzF_cases tab x with ⟨h,k⟩ | h
 ·refine .inl ⟨h,fun hx=>?_⟩
  obtain ⟨p,hp,rfl⟩:=List.mem_map.1 hx;exact k p hp rfl
 ·exact .inr h
theorem nz_bd (x:List UInt8):nz x = -1 \/ (48 <= nz x /\ nz x <= 120812 /\ (nz x + 9 < 55296 \/ 57343 < nz x)):=by
 rcases nz_cases x with ⟨h,_⟩ | h
 ·exact .inl h
 ·have:=tab_bd _ h
  exact .inr ⟨this.1,this.2.1,this.2.2.1⟩
theorem idx_lt (n:Int):idx n < 20:=by
 have:=around_bd n 20 (by omega);unfold idx;omega
theorem idx_int (n:Int):around n 20 = (idx n:Int):=by
 have:=around_bd n 20 (by omega);unfold idx;omega
theorem nmB_at (i:Nat) (h:i < 20):nmB[i]? = some ⟨(nmL.getD i []).toArray⟩:=by
 unfold nmB;rw [List.getElem?_map,List.getD_eq_getElem?_getD,List.getElem?_eq_getElem (by rw [nmL_len];exact h)];rfl
/-! ### the map -/
def entries (l:List (List UInt8 × Int)):List (Lit × DataW Unit):=l.map fun p=>(.string p.1,.lit (.int .i64 p.2))
def D0:DataW Unit:=.map (entries tab)
theorem has_entries (l:List (List UInt8 × Int)) (hl:∀ p ∈ l,p.2 ≠ -1) (x:List UInt8):Maps.has (.map (entries l)) (.string x) = decide (nzF l x ≠ -1):=by
 induction l with
 | nil=>rfl
 | cons q r ih =>
  have ih:=ih fun p hp=>hl p (List.mem_cons_of_mem _ hp);rw [Maps.has_eq] at ih |-;show ((Lit.string q.1).sameKey (.string x) || (entries r).any fun p=>p.1.sameKey (.string x)) = _;rw [ih,nzF_cons];by_cases h:q.1 = x
  ·have:=hl q List.mem_cons_self
   simp [Lit.sameKey,h,this]
  ·simp [Lit.sameKey,h]
theorem at_entries (l:List (List UInt8 × Int)) (x:List UInt8) (h:nzF l x ≠ -1) (z:DataW Unit):(DataW.map (entries l)).atKey (.string x) z = .lit (.int .i64 (nzF l x)):=by
 induction l with
 | nil=>exact absurd rfl h
 | cons q r ih =>
  unfold nzF at h |-;unfold DataW.atKey at ih |-;by_cases hq:q.1 = x
  ·simp [entries,Lit.sameKey,hq]
  ·rw [if_neg hq] at h |-
   have:=ih h;have hf:(Lit.string q.1).sameKey (.string x) = false:=by simp [Lit.sameKey,hq]
   simp only [entries,List.map_cons,List.find?_cons,hf];exact this
theorem tab_ne:∀ p ∈ tab,p.2 ≠ -1:=fun p hp=>by have:=tab_bd p hp;omega
theorem D0_has (x:List UInt8):Maps.has D0 (.string x) = decide (nz x ≠ -1):=has_entries tab tab_ne x
theorem D0_at (x:List UInt8) (z:DataW Unit) (h:nz x ≠ -1):D0.atKey (.string x) z = .lit (.int .i64 (nz x)):=at_entries tab x h z
/-! ### digits shaped, and read -/
def dgE (z d:Int):Int:=if z = -1 then 7 else if 0 <= d /\ d <= 9 then 0 else 3
def dgS (z d:Int):ByteArray:=if z = -1 then ⟨#[]⟩ else if 0 <= d /\ d <= 9 then encB (z + d) else ⟨#[]⟩
def vv (z c:Int):Int:=if z = -1 then -1 else vl z c
end Sm
end
section
open Go.RowKit Um
def cat (xs:List ByteArray):List UInt8:=xs.flatMap fun p=>p.data.toList
theorem cat_take (xs:List ByteArray) (k:Nat) (x:ByteArray) (h:xs[k]? = some x):cat (xs.take (k + 1)) = cat (xs.take k) ++ x.data.toList:=by
 obtain ⟨hk,rfl⟩:=List.getElem?_eq_some_iff.1 h;unfold cat;rw [List.take_succ_eq_append_getElem hk,List.flatMap_append];simp
theorem cat_take_le (xs:List ByteArray) (k:Nat):(cat (xs.take k)).length <= (cat xs).length:=by
 have h:cat xs = cat (xs.take k) ++ cat (xs.drop k):=by
  unfold cat;rw [<- List.flatMap_append,List.take_append_drop]
 rw [h,List.length_append];omega
namespace Bl
theorem room_any (B b n:Nat) (w:World) (hB:B <= b) (hbk:w.heap[b]? = some (.cells #[.pointer none,.slice none 0 0] 106 (0,0))) (hBw:B <= w.heap.size) (hn:n <= 1099511627776) :
  Calls Tryz.prog 217 #[.pointer (some ⟨b,0,none⟩),.int .i64 n] w fun e w'=>e = .returned (.tuple #[]) /\ Is B b [] w' /\ Below B w w':=by
 have c0:w.cell? ⟨b,0,none⟩ = some (.pointer none):=by rw [Lib.cell_of_heap hbk];rfl
 have hsh:w.shape? b = some (106,2):=by simp [World.shape?,hbk]
 have hb1:(w.setCell ⟨b,0,none⟩ (.pointer (some ⟨b,0,none⟩))).heap[b]? = some (.cells #[.pointer (some ⟨b,0,none⟩),.slice none 0 0] 106 (0,0)):=by
  simp [World.setCell,Array.getElem?_modify,hbk]
 have hq1:Below B w (w.setCell ⟨b,0,none⟩ (.pointer (some ⟨b,0,none⟩))):=(Below.refl B w).setCell (p:=⟨b,0,none⟩) hB _;have hus:Lib.BuilderAt 106 5 B b (.pointer (some ⟨b,0,none⟩)) [] (w.setCell ⟨b,0,none⟩ (.pointer (some ⟨b,0,none⟩))):=⟨hB,.slice none 0 0,hb1,World.ownsRow_nil _ _ _ _,by simp [Value.ownBlock]⟩;have hfz:=Lib.frozen_of_heap hbk 0;have mixed:Tryz.prog.follows Departure.mixedOrders = true:=by kernel_rfl
 have hBw1:B <= (w.setCell ⟨b,0,none⟩ (.pointer (some ⟨b,0,none⟩))).drew.heap.size:=Nat.le_trans hBw hq1.size;go_enter Tryz.func217,Tryz.ntmps217
 go_wp2_with (go_at_call 75;refine (check_fresh b w c0 hsh hfz).mono ?_;rintro e w' ⟨rfl,rfl⟩)
 generalize w.setCell ⟨b,0,none⟩ (.pointer (some ⟨b,0,none⟩)) = W at *;have c1:W.drew.cell? ⟨b,1,none⟩ = some (.slice none 0 0):=by
  have:W.drew.heap[b]? = _:=hb1;rw [Lib.cell_of_heap this];rfl
 go_region_o
 all_goals go_wp2_with (go_at_call 227;refine (grow_any B b n W.drew hB hb1 hBw1 (by omega)).mono ?_;rintro e w' ⟨rfl,h1,h2⟩)
 all_goals first
  | (go_end0;exact ⟨rfl,Lib.IsBuilderF.of (.inr h1),hq1.drew.trans h2⟩)
  | (go_end0;exact ⟨rfl,Lib.IsBuilderF.of (.inr hus.drew),hq1.drew⟩)
end Bl
theorem sjoin_any (v:Value) (xs:List ByteArray) (w:World) (hv:SLst w v xs) (hx:xs.length <= 1073741824) (hl:(cat xs).length <= 1073741824) :
  Calls Tryz.prog 205 #[v,.string ⟨#[]⟩] w fun e w'=>e = .returned (.string ⟨(cat xs).toArray⟩) /\ Q w w':=by
 obtain ⟨n,hn⟩:∃ n,n = xs.length:=⟨_,rfl⟩;by_cases h0:n = 0
 ·have hxs:xs = []:=List.eq_nil_of_length_eq_zero (by omega)
  subst hxs;obtain ⟨a,c,rfl⟩:=hv.shape;clear hv hx hl hn h0;go_enter Tryz.func205,Tryz.ntmps205
  go_wp2
  go_ret
  exact ⟨rfl,Q.refl _⟩
 by_cases h1:n = 1
 ·obtain ⟨x,rfl⟩:∃ x,xs = [x]:=by
   match xs,hn with
   | [x],_=>exact ⟨x,rfl⟩
   | [],h=>exact absurd h (by simpa using h0)
   | _ :: _ :: _,h=>simp at h;omega
  obtain ⟨g,off,cap,rfl,hg,_,_,c1⟩:=hv.cellOf (n:=1) (k:=0) (x:=x) rfl rfl;rw [Nat.add_zero] at c1;have HR:=Hd (show (⟨(cat [x]).toArray⟩:ByteArray) = x from ba_ext (by simp [cat]));clear hv hx hl hn h0 h1;go_enter Tryz.func205,Tryz.ntmps205
  go_wp2
  go_ret
  rw [HR.out];exact ⟨rfl,Q.refl _⟩
 have h2:2 <= n:=by omega
 obtain ⟨g,off,cap,rfl,hg,hcp,hcm,hcell⟩:∃ g off cap,v = .slice (some ⟨g,off,none⟩) n cap /\ g < w.heap.size /\ n <= cap /\ cap <= maxLen /\ ∀ i x,xs[i]? = some x -> w.cell? ⟨g,off + i,none⟩ = some (.string x):=by
  rcases hv with ⟨rfl,_⟩ | ⟨g,off,cap,hvv,hg,e1,e2,hc⟩
  ·simp at hn;omega
  ·rw [<- hn] at hvv e1
   exact ⟨g,off,cap,hvv,hg,e1,e2,hc⟩
 unfold maxLen at hcm;rw [<- hn] at hx;have hne0:((n:Int) == 0) = false:=beq_eq_false_iff_ne.2 (by omega);have hne1:((n:Int) == 1) = false:=beq_eq_false_iff_ne.2 (by omega);have hnc:¬ (1 = cap):=by omega
 have hget:∀ k,k < n -> ∃ x,xs[k]? = some x:=fun k hk=>⟨xs[k]'(by omega),List.getElem?_eq_getElem (by omega)⟩;have hle:∀ k,(cat (xs.take k)).length <= 1073741824:=fun k=>Nat.le_trans (cat_take_le xs k) hl;have hall:∀ k,n <= k -> xs.take k = xs:=fun k hk=>List.take_of_length_le (by omega);have hfr:∀ (u:World) (T:Nat),T <= 1073741824 -> Calls Tryz.prog 217 #[.pointer (some ⟨u.heap.size,0,none⟩),.int .i64 T] (u.alloc (.cells #[.pointer none,.slice none 0 0] 106)) fun e w'=>e = .returned (.tuple #[]) /\ Bl.Is u.heap.size u.heap.size [] w' /\ Below u.heap.size (u.alloc (.cells #[.pointer none,.slice none 0 0] 106)) w':=fun u T hT =>
  Bl.room_any u.heap.size u.heap.size T _ (Nat.le_refl _) (heap_alloc_new u _) (by simp) (by omega)
 have HN:=Hd hn;have HG:=Hd hget;have HL:=Hd hle;have HA:=Hd hall;have HC:=Hd hcell;have HF:=Hd hfr;have HT:=Hd (fun k x h=>cat_take xs k x h);clear hn hget hle hall hcell hv hl h0 h1 hfr;go_enter Tryz.func205,Tryz.ntmps205
 go_wp2_with fail
 go_loop [5,41] (fun t i=>∃ k:Nat,k <= n /\ i = .int .i64 k /\ t = .int .i64 ((cat (xs.take k)).length:Nat)) (fun _ i=>n - (intOf i).toNat)
 case atStart=>exact ⟨0,Nat.zero_le _,rfl,rfl⟩
 case round =>
  obtain ⟨k,hk,rfl,rfl⟩:=hrel;by_cases hkn:k < n
  ·obtain ⟨x,hx1⟩:=HG.out k hkn
   have c1:=HC.out k x hx1;have ht:=congrArg List.length (HT.out k x hx1);rw [List.length_append,size_list] at ht;have hb:=HL.out (k + 1);generalize (cat (xs.take k)).length = T0 at ht |-;have HTT:=Hd ht;have hb2:T0 + x.size <= 1073741824:=by omega
   clear ht hx1;go_wp2_with fail
   exact ⟨⟨k + 1,by omega,by go_num,by rw [HTT.out];go_num⟩,by simp [intOf];omega⟩
  ·have hke:k = n:=by omega
   subst hke;have hb:=HL.out k;rw [HA.out k (Nat.le_refl _)] at hb |-;obtain ⟨T,hT⟩:∃ T,T = (cat xs).length:=⟨_,rfl⟩;rw [<- hT] at hb |-;clear hT;go_wp2_with fail
   refine (HF.out _ T hb).mono ?_;rintro e w1 ⟨rfl,hI,hb1⟩;have hq1:Q w w1:=((Below.refl w.heap.size w).alloc (Nat.le_refl _) _).trans hb1;have hqs1:=hq1.le;obtain ⟨x,hx1⟩:=HG.out 0 (by omega);have c1:=(World.cell?_of_block (w:=w) (a:=⟨g,off,none⟩) (hq1.block hg)).trans (HC.out 0 x hx1);have ht:=HT.out 0 x hx1;have hb0:=HL.out 1;rw [ht,List.length_append,size_list] at hb0;have HTT:=Hd ht;clear ht hx1;go_wp2_with fail
   refine (Bl.write_any _ _ _ x w1 hI (by simp;omega) hqs1).mono ?_;rintro e w2 ⟨rfl,hI2,hb2,_⟩;have hq2:Q w w2:=Below.trans hq1 hb2;have hI3:Bl.Is w.heap.size w.heap.size (Lib.byteCells (cat (xs.take 1))) w2:=by
    rw [HTT.out,List.take_zero];have:=Bl.Is.write (l:=[]) (s:=x) hI2;exact this
   clear hI hI2 hb1 hb2 hq1 hqs1 c1 HTT;go_wp2_with fail
   go_loopw [65] (fun i wr=>∃ j:Nat,i = .int .i64 j /\ j + 1 <= k /\ Bl.Is w.heap.size w.heap.size (Lib.byteCells (cat (xs.take (j + 1)))) wr /\ Q w wr) (fun i _=>k - (intOf i).toNat)
   case atStart=>exact ⟨0,rfl,by omega,hI3,hq2⟩
   case round =>
    obtain ⟨j,rfl,hj,hI,hq⟩:=hrel;have hqs:=hq.le;by_cases hlt:j + 1 < k
    ·obtain ⟨y,hy⟩:=HG.out (j + 1) hlt
     have c1:=(World.cell?_of_block (w:=w) (a:=⟨g,off + (j + 1),none⟩) (hq.block hg)).trans (HC.out (j + 1) y hy);rw [show off + (j + 1) = off + 1 + j from by omega] at c1;have ht:=HT.out (j + 1) y hy;have hb0:=HL.out (j + 1 + 1);rw [ht,List.length_append,size_list] at hb0;have HTT:=Hd ht;have hjk:(j:Int) < (k:Int) - 1:=by omega
     clear ht hy;go_wp2_with fail
     refine (Bl.write_any _ _ _ ⟨#[]⟩ wr hI (by rw [Bl.cells_length];show _ + 0 <= _;omega) hqs).mono ?_;rintro e w3 ⟨rfl,hI4,hb3,_⟩;have hq3:Q w w3:=Below.trans hq hb3;have hqs3:=hq3.le;have hI5:Bl.Is w.heap.size w.heap.size (Lib.byteCells (cat (xs.take (j + 1)))) w3:=by
      have:=Bl.Is.write hI4;rw [show (⟨#[]⟩:ByteArray).data.toList = [] from rfl,List.append_nil] at this;exact this
     clear hI4 c1;go_wp2_with fail
     refine (Bl.write_any _ _ _ y w3 hI5 (by rw [Bl.cells_length];omega) hqs3).mono ?_;rintro e w4 ⟨rfl,hI6,hb4,_⟩;have hq4:Q w w4:=Below.trans hq3 hb4;go_wp2_with fail
     exact ⟨⟨j + 1,by go_num,by omega,by rw [HTT.out];exact hI6.write,hq4⟩,by simp [intOf];omega⟩
    ·have hje:j + 1 = k:=by omega
     rw [hje,HA.out k (Nat.le_refl _)] at hI;have hjk:¬ ((j:Int) < (k:Int) - 1):=by omega
     clear hje;go_wp2_with (go_at_call 45;refine (Bl.done_any _ _ _ _ hI hqs).mono ?_;rintro e w' ⟨rfl,hb2⟩)
     go_ret
     exact ⟨rfl,Below.trans hq hb2⟩
end
section
open Go.RowKit Um
theorem vt {c:Int} (h:0 <= c /\ c <= 1114111 /\ (c < 55296 \/ 57343 < c)):vld c = true:=(vld_iff c).2 h
theorem vf {c:Int} (h:¬ (0 <= c /\ c <= 1114111 /\ (c < 55296 \/ 57343 < c))):vld c = false:=(vld_false c).2 h
theorem may_any (c:Int) (w:World) :
  Calls Tryz.prog 192 #[.int .i64 c] w fun e w'=>e = .returned (.bool (vld c)) /\ w = w':=by
 by_cases h1:0 <= c
 ·by_cases h2:c <= 1114111
  ·by_cases h3:c < 55296
   ·rw [vt ⟨h1,h2,.inl h3⟩]
    go_enter Tryz.func192,Tryz.ntmps192
    go_wp2
    go_ret
    exact ⟨rfl,rfl⟩
   ·by_cases h4:57343 < c
    ·rw [vt ⟨h1,h2,.inr h4⟩]
     go_enter Tryz.func192,Tryz.ntmps192
     go_wp2
     go_ret
     exact ⟨rfl,rfl⟩
    ·rw [vf (by omega)]
     go_enter Tryz.func192,Tryz.ntmps192
     go_wp2
     go_ret
     exact ⟨rfl,rfl⟩
  ·rw [vf (by omega)]
   go_enter Tryz.func192,Tryz.ntmps192
   go_wp2
   go_ret
   exact ⟨rfl,rfl⟩
 ·rw [vf (by omega)]
  go_enter Tryz.func192,Tryz.ntmps192
  go_wp2
  go_ret
  exact ⟨rfl,rfl⟩
theorem encode_any (c:Int) (w:World) :
  Calls Tryz.prog 151 #[.int .i64 c] w fun e w'=>e = .returned (.string (encB c)) /\ w = w':=by
 by_cases hv:vld c = true
 ·have hb:=(vld_iff c).1 hv
  have HE:Hid (encB c = Utf8.encode c):=by unfold encB;exact if_pos hv
  go_enter Tryz.func151,Tryz.ntmps151
  go_wp2_with (go_at_call 192;refine (may_any _ _).mono ?_;rintro e w' ⟨rfl,rfl⟩)
  go_ret
  rw [HE.out];exact ⟨rfl,rfl⟩
 ·have hv:vld c = false:=by simpa using hv
  have HE:Hid (encB c = ⟨#[]⟩):=by unfold encB;exact if_neg (by simp [hv])
  go_enter Tryz.func151,Tryz.ntmps151
  go_wp2_with (go_at_call 192;refine (may_any _ _).mono ?_;rintro e w' ⟨rfl,rfl⟩)
  go_ret
  rw [HE.out];exact ⟨rfl,rfl⟩
theorem ret_bool {a b:Bool} (h:a = b):Ending.returned (.bool a) = .returned (.bool b):=by rw [h]
theorem ret_int {k:IntKind} {a b:Int} (h:a = b):Ending.returned (.int k a) = .returned (.int k b):=by rw [h]
theorem ret_str {a b:ByteArray} (h:a = b):Ending.returned (.string a) = .returned (.string b):=by rw [h]
theorem spoilt_any (s:ByteArray) (r:Int) (w:World) :
  Calls Tryz.prog 201 #[.string s,.int .i32 r] w fun e w'=>e = .returned (.bool (r == 65533 && !Lib.hasPrefix s.data.toList (enc 65533))) /\ w = w':=by
 by_cases hr:r = 65533
 ·subst hr
  go_enter Tryz.func201,Tryz.ntmps201
  go_wp2_with (go_at_call 214;refine (hasPrefix_any _ _ _).mono ?_;rintro e w' ⟨rfl,rfl⟩)
  go_ret
  exact ⟨ret_bool (by simp [enc]),rfl⟩
 ·go_enter Tryz.func201,Tryz.ntmps201
  go_wp2_with fail
  go_ret
  exact ⟨ret_bool (by rw [beq_eq_false_iff_ne.2 hr];rfl),rfl⟩
theorem spoilt_dec (s:ByteArray) (hs:s.data.toList ≠ []) (r:Int) (hr:r = ((dec s.data.toList).1:Nat)) (w:World) :
  Calls Tryz.prog 201 #[.string s,.int .i32 r] w fun e w'=>e = .returned (.bool (spo s.data.toList)) /\ w = w':=by
 refine (spoilt_any s r w).mono ?_;rintro e w' ⟨rfl,rfl⟩;exact ⟨ret_bool (by rw [hr];exact spo_code _ hs),rfl⟩
theorem first_any (s:ByteArray) (w:World) (hm:s.size <= maxLen) :
  Calls Tryz.prog 213 #[.string s] w fun e w'=>e = .returned (.tuple #[.int .i64 (fst3 s.data.toList).1,.int .i64 (fst3 s.data.toList).2.1,.bool (fst3 s.data.toList).2.2]) /\ Q w w':=by
 unfold maxLen at hm;by_cases hs:s.size = 0
 ·have hl:s.data.toList = []:=by apply List.eq_nil_of_length_eq_zero;simpa using hs
  have HF:Hid (fst3 s.data.toList = (0,0,false)):=by rw [hl];rfl
  have hnx:∀ ty,(Instr.next (.pointer (some ⟨w.heap.size,0,none⟩)) true ty).run Tryz.prog (w.iter s 0) = _:=fun ty=>run_next_end w s 0 ty (by omega);clear hl hs;go_enter Tryz.func213,Tryz.ntmps213
  go_wp2
  refine wp_loop_rounds 1 ?_;rw [rounds_succ];go_wp2
  go_ret3
  rw [HF.out];exact ⟨rfl,(Q.refl _).alloc _⟩
 ·have hl:s.data.toList ≠ []:=by intro h;apply hs;have:=congrArg List.length h;simpa using this
  have hp:0 < s.size:=by omega
  have hnx:∀ ty,(Instr.next (.pointer (some ⟨w.heap.size,0,none⟩)) true ty).run Tryz.prog (w.iter s 0) = _:=fun ty=>run_next_any w s 0 ty hp;go_enter Tryz.func213,Tryz.ntmps213
  go_wp2
  refine wp_loop_rounds 1 ?_;rw [rounds_succ];have hd:Utf8.decode s 0 = dec s.data.toList:=by rw [decode_dec];rfl
  have hb:=dec_c _ hl;have hb:=(vld_iff _).1 hb;rw [hd] at hnx;have HD:=Hd hd;clear hd;have hsp:=fun w=>spoilt_dec s hl ((dec s.data.toList).1:Nat) rfl w;cases hc:spo s.data.toList
  ·have HF:Hid (fst3 s.data.toList = (((dec s.data.toList).1:Int),((Utf8.encode ((dec s.data.toList).1:Nat)).size:Int),true)):=Hd (by
    unfold fst3 mrk;rw [if_neg hl,hc];have:(dec s.data.toList).2 = (Utf8.encode ((dec s.data.toList).1:Nat)).size:=by
     obtain ⟨c,r,hv,hr⟩:=(spo_false_iff _ hl).1 hc;rw [hr,dec_enc c r hv];have:=(vld_iff c).1 hv;simp only;rw [show ((c.toNat:Nat):Int) = c from by omega];rfl
    rw [this];simp)
   rw [hc] at hsp;have HS:=Hd hsp;clear hsp hc;go_wp2_with (go_at_call 201;refine (HS.out _).mono ?_;rintro e w' ⟨rfl,rfl⟩)
   go_ret3
   rw [HF.out];exact ⟨rfl,(Q.refl _).alloc _⟩
  ·have HF:Hid (fst3 s.data.toList = (65533,1,false)):=Hd (by
    unfold fst3;rw [if_neg hl,mark_spo _ hc];simp)
   rw [hc] at hsp;have HS:=Hd hsp;clear hsp hc;go_wp2_with (go_at_call 201;refine (HS.out _).mono ?_;rintro e w' ⟨rfl,rfl⟩)
   go_ret3
   rw [HF.out];exact ⟨rfl,(Q.refl _).alloc _⟩
theorem len_any (s:ByteArray) (w:World) (hm:s.size <= maxLen) :
  Calls Tryz.prog 196 #[.string s] w fun e w'=>e = .returned (.int .i64 ((marks s.data.toList).length:Nat)) /\ Q w w':=by
 unfold maxLen at hm;have hml:=marks_length s.data.toList;rw [size_list] at hml;go_enter Tryz.func196,Tryz.ntmps196
 go_wp2
 go_loopw [3] (fun n wr=>∃ pos k:Nat,wr = w.iter s pos /\ n = .int .i64 k /\ k + (marks (s.data.toList.drop pos)).length = (marks s.data.toList).length) (fun _ wr=>s.size - wr.iterPos w.heap.size)
 case atStart=>exact ⟨0,0,rfl,rfl,by simp⟩
 case round =>
  obtain ⟨pos,k,rfl,rfl,hk⟩:=hrel;by_cases hp:pos < s.size
  ·have hkb:k < s.size:=by rw [marks_at s pos hp] at hk;simp only [List.length_cons] at hk;omega
   have HK:=Hd hk;clear hk hml;have hnx:∀ ty,(Instr.next (.pointer (some ⟨w.heap.size,0,none⟩)) true ty).run Tryz.prog (w.iter s pos) = _:=fun ty=>run_next_any w s pos ty hp;rw [decode_at] at hnx;have hwd:=mark_at_n s pos hp;go_wp2
   go_roundw
   case rel=>exact ⟨_,k + 1,rfl,by go_num,by have:=HK.out;rw [marks_at s pos hp] at this;simp only [List.length_cons] at this;omega⟩
   case measure=>simp;omega
  ·have hnx:∀ ty,(Instr.next (.pointer (some ⟨w.heap.size,0,none⟩)) true ty).run Tryz.prog (w.iter s pos) = _:=fun ty=>run_next_end w s pos ty hp
   have HK:=Hd hk;clear hk hml;go_wp2
   go_ret
   have hk:=HK.out;rw [marks_end s pos hp] at hk;exact ⟨ret_int (by simp at hk;omega),(Q.refl _).alloc _⟩
theorem extract_list (s:ByteArray) (pos:Nat):(s.extract pos s.size).data.toList = s.data.toList.drop pos:=by
 rw [ByteArray.data_extract,Array.toList_extract];have:s.size = s.data.toList.length:=(size_list s).symm;rw [List.extract_eq_take_drop,this,List.take_of_length_le (by simp)]
theorem valid_any (s:ByteArray) (w:World) (hm:s.size <= maxLen) :
  Calls Tryz.prog 183 #[.string s] w fun e w'=>e = .returned (.bool (okL s.data.toList)) /\ Q w w':=by
 unfold maxLen at hm;go_enter Tryz.func183,Tryz.ntmps183
 go_wp2
 go_loopw [] (fun wr=>∃ pos:Nat,wr = w.iter s pos /\ (marks (s.data.toList.drop pos)).all (·.2.2) = okL s.data.toList) (fun wr=>s.size - wr.iterPos w.heap.size)
 case atStart=>exact ⟨0,rfl,rfl⟩
 case round =>
  obtain ⟨pos,rfl,hk⟩:=hrel;have HK:=Hd hk;clear hk;by_cases hp:pos < s.size
  ·have hnx:∀ ty,(Instr.next (.pointer (some ⟨w.heap.size,0,none⟩)) true ty).run Tryz.prog (w.iter s pos) = _:=fun ty=>run_next_any w s pos ty hp
   rw [decode_at] at hnx;have hwd:=mark_at_n s pos hp;have hx:=extract_list s pos;have hne:=drop_ne hp;rw [<- hx] at hne;have hsp:=fun w=>spoilt_dec (s.extract pos s.size) hne ((dec (s.data.toList.drop pos)).1:Nat) (by rw [hx]) w;rw [hx] at hsp;clear hx hne;cases hc:spo (s.data.toList.drop pos);all_goals
    rw [hc] at hsp;have HS:=Hd hsp;have HC:=Hd hc;clear hsp hc;go_wp2_with (go_at_call 201;refine (HS.out _).mono ?_;rintro e w' ⟨rfl,rfl⟩)
   ·go_roundw
    case rel =>
     refine ⟨_,rfl,?_⟩;have:=HK.out;rw [marks_at s pos hp,List.all_cons] at this;have h2:(mrk (s.data.toList.drop pos)).2.2 = true:=by unfold mrk;rw [HC.out];rfl
     rw [h2] at this;simpa using this
    case measure=>simp;omega
   ·go_ret
    have:=HK.out;rw [marks_at s pos hp,List.all_cons] at this;have h2:(mrk (s.data.toList.drop pos)).2.2 = false:=by unfold mrk;rw [HC.out];rfl
    rw [h2] at this;exact ⟨ret_bool (by simpa using this),(Q.refl _).alloc _⟩
  ·have hnx:∀ ty,(Instr.next (.pointer (some ⟨w.heap.size,0,none⟩)) true ty).run Tryz.prog (w.iter s pos) = _:=fun ty=>run_next_end w s pos ty hp
   go_wp2
   go_ret
   have hk:=HK.out;rw [marks_end s pos hp] at hk;exact ⟨ret_bool (by simpa using hk),(Q.refl _).alloc _⟩
theorem toList_eq (s:ByteArray):s.toList = s.data.toList:=ByteArray.toList_eq s
theorem all_any (s:ByteArray) (w:World) (hm:s.size <= 1073741824) :
  Calls Tryz.prog 161 #[.string s] w fun e w'=>∃ v,e = .returned v /\ Own w' w.heap.size v (allL s.data.toList) /\ Q w w':=by
 obtain ⟨i0,hi,hz0,hz1,hz2⟩:=info_parts infoInt;have hml:=marks_length s.data.toList;rw [size_list] at hml;go_enter Tryz.func161,Tryz.ntmps161
 go_wp2_with fail
 refine (len_any _ _ (by unfold maxLen;omega)).mono ?_;rintro e w1 ⟨rfl,hq1⟩;have hs1:=hq1.le;go_wp2_with (at_make;refine wpList_make_own _ rfl _ _ 24 rfl w.heap.size 3 i0 (.int .i64 0) 1 Tryz.underlying24 hi hz0 hz1 .i64 .i64 _ (marks s.data.toList).length rfl rfl rfl (by rw [hz2];omega) (by unfold maxLen;omega) hs1 ?_;intro w2 hown2 hg2)
 have hq2:Q w w2:=hq1.grown hg2 (fun k h=>by cases h);have hown2:Own w2 w.heap.size (.slice (some ⟨w1.heap.size,0,none⟩) 0 (marks s.data.toList).length) []:=hown2;have hs2:=hq2.le;go_wp2
 go_loopw [3] (fun v wr=>∃ (pos:Nat) (acc:List Int),Own wr w.heap.size v acc /\ wr.heap[w2.heap.size]? = some (.stringIter s pos) /\ Q w wr /\ acc ++ allL (s.data.toList.drop pos) = allL s.data.toList)
  (fun _ wr=>s.size - wr.iterPos w2.heap.size)
 case atStart=>exact ⟨0,[],hown2.q ((Q.refl _).alloc _),World.iter_heap w2 s 0,hq2.alloc _,by simp⟩
 case round =>
  obtain ⟨pos,acc,hown,hit,hq,hacc⟩:=hrel;have hk0:w2.heap.size < wr.heap.size:=(Array.getElem?_eq_some_iff.1 hit).1;have hsq:=hq.le;by_cases hp:pos < s.size
  ·have hnx:∀ ty,(Instr.next (.pointer (some ⟨w2.heap.size,0,none⟩)) true ty).run Tryz.prog wr = _:=fun ty=>Lib.run_next_any_at wr w2.heap.size s pos ty hit hp
   rw [decode_at] at hnx;have hwd:=mark_at_n s pos hp;have hcb:=(vld_iff _).1 (dec_c _ (drop_ne hp));have hal:acc.length < 1073741824:=by
    have h1:=congrArg List.length hacc;simp only [allL,List.length_append,List.length_map] at h1;rw [marks_at s pos hp] at h1;simp only [List.length_cons] at h1;omega
   have hown3:=hown.iterAt hit (pos + (mrk (s.data.toList.drop pos)).2.1);have hit3:=Lib.iterAt_heap wr w2.heap.size s pos (pos + (mrk (s.data.toList.drop pos)).2.1) hit;have hq3:=hq.iterAt (k:=w2.heap.size) hs2 s (pos + (mrk (s.data.toList.drop pos)).2.1);have hs3:=hq3.le;have HA:=Hd hacc;clear hacc hml;go_wp2_with (at_builtin;refine push_int hown3 rfl _ _ rfl _ (by rfl) (by rfl) (by omega) hs3 ?_;intro v' w4 hown4 hg4 hat4)
   have hit4:=iter_grown hown3 hg4 hit3;go_roundw
   case rel =>
    refine ⟨_,_,hown4,hit4,hq3.grown hg4 (fun g h=>(hown3.lt g h).1),?_⟩;have:=HA.out;unfold allL at this |-;rw [marks_at s pos hp] at this;rw [<- this];simp [mrk]
   case measure =>
    rw [iterPos_of hit4,iterPos_of hit];omega
  ·have hnx:∀ ty,(Instr.next (.pointer (some ⟨w2.heap.size,0,none⟩)) true ty).run Tryz.prog wr = _:=fun ty=>Lib.run_next_end_at wr w2.heap.size s pos ty hit hp
   have HA:=Hd hacc;clear hacc hml;go_wp2
   go_ret
   refine ⟨_,rfl,?_,hq⟩;have:=HA.out;unfold allL at this;rw [marks_end s pos hp,List.map_nil,List.append_nil] at this;unfold allL;rw [<- this];exact hown
end
section
open Go.RowKit
namespace Dw
theorem zeros_any (v:Value) (xs:List Int) (w:World) (hv:Lst w v xs) (hl:xs.length < 1099511627776) :
  Calls Tryz.prog 129 #[v] w fun e w'=>e = .returned (.int .i64 (Dm.zer xs)) /\ w = w':=by
 obtain ⟨a,c,rfl⟩:=hv.shape;obtain ⟨n,hn⟩:∃ n,n = xs.length:=⟨_,rfl⟩;have HS:=Hd (Dm.zer_step xs);have HH:=Hd (Dm.zer_hit xs);have hz:=Dm.zer_le xs;generalize Dm.zer xs = z at *;rw [<- hn] at hv hl HS HH hz |-;have HV:=Hd (fun k h=>hv.cellOf (n:=n) (k:=k) hn.symm h);clear hv hn;go_enter Tryz.func129,Tryz.ntmps129
 go_wp2_with fail
 go_loop [6] (fun i=>∃ k:Nat,i = .int .i64 k /\ k <= n /\ k <= z) (fun i=>n - (intOf i).toNat)
 case atStart=>exact ⟨0,rfl,by omega,by omega⟩
 case round =>
  obtain ⟨k,rfl,hk,hkz⟩:=hrel;by_cases hlt:k < n
  ·obtain ⟨g,off,cap,hvv,hg,_,_,c1⟩:=HV.out k hlt
   cases hvv;have hs:=HS.out k hkz hlt;have hh:=HH.out k hkz hlt;obtain ⟨y,hy⟩:∃ y,y = xs.getD k 0:=⟨_,rfl⟩;rw [<- hy] at c1 hs hh;clear hy;by_cases hy0:y = 0
   ·have h1:=hs hy0
    have e1:(y != 0) = false:=by rw [hy0];rfl
    clear hs hh hy0;go_wp2_with fail
    exact ⟨⟨k + 1,by go_num,by omega,h1⟩,by simp [intOf];omega⟩
   ·have HZ:=Hd (hh hy0)
    have e1:(y != 0) = true:=bne_iff_ne.2 hy0;clear hs hh hy0;go_wp2_with fail
    go_ret
    rw [HZ.out];exact ⟨rfl,rfl⟩
  ·have HZ:Hid (z = n):=Hd (by omega)
   go_wp2_with fail
   go_ret
   rw [HZ.out];exact ⟨rfl,rfl⟩
end Dw
end
namespace Tm
open Dm
structure T where
 g:Bool
 i:List Int
 s:Bool
 f:List Int
def T0:T:=⟨false,[],false,[]⟩
def may (d:T):Bool:=okB d.i && okB d.f && (d.s || d.f.isEmpty)
def sep (s:Bool):List Int:=if s then [10] else []
theorem sep_len (s:Bool):(sep s).length <= 1:=by cases s <;> simp [sep]
def ats (d:T):List Int:=d.i ++ sep d.s ++ d.f
theorem ats_len (d:T):(ats d).length = d.i.length + (sep d.s).length + d.f.length:=by simp [ats];omega
def okA (l:List Int):Bool:=l.all fun d=>decide (0 <= d /\ d <= 10)
theorem okA_iff (l:List Int):okA l = true ↔ ∀ d ∈ l,0 <= d /\ d <= 10:=by simp [okA]
theorem okA_drop (xs:List Int) (k:Nat) (hk:k < xs.length):okA (xs.drop k) = (decide (0 <= xs.getD k 0 /\ xs.getD k 0 <= 10) && okA (xs.drop (k + 1))):=by
 rw [drop_cons xs k hk];rfl
theorem okA_bad (xs:List Int) (k:Nat) (hk:k < xs.length) (h:¬ (0 <= xs.getD k 0 /\ xs.getD k 0 <= 10)):okA (xs.drop k) = false:=by
 rw [okA_drop xs k hk,decide_eq_false h];rfl
theorem okA_on (xs:List Int) (k:Nat) (hk:k < xs.length) (h:0 <= xs.getD k 0 /\ xs.getD k 0 <= 10):okA (xs.drop k) = okA (xs.drop (k + 1)):=by
 rw [okA_drop xs k hk,decide_eq_true h];rfl
theorem okA_end (xs:List Int) (k:Nat) (hk:xs.length <= k):okA (xs.drop k) = true:=by rw [List.drop_eq_nil_of_le hk];rfl
def ahd (l:List Int):List Int:=l.takeWhile fun x=>!(x == 10)
def bhd (l:List Int):List Int:=(l.dropWhile fun x=>!(x == 10)).drop 1
def has (l:List Int):Bool:=l.any fun x=>x == 10
theorem ahd_cons (x:Int) (l:List Int):ahd (x :: l) = if x = 10 then [] else x :: ahd l:=by
 unfold ahd;by_cases h:x = 10
 ·subst h;rw [List.takeWhile_cons_of_neg (by simp),if_pos rfl]
 ·rw [List.takeWhile_cons_of_pos (by simpa using h),if_neg h]
theorem bhd_cons (x:Int) (l:List Int):bhd (x :: l) = if x = 10 then l else bhd l:=by
 unfold bhd;by_cases h:x = 10
 ·subst h;rw [List.dropWhile_cons_of_neg (by simp),if_pos rfl];rfl
 ·rw [List.dropWhile_cons_of_pos (by simpa using h),if_neg h]
theorem has_cons (x:Int) (l:List Int):has (x :: l) = (x == 10 || has l):=rfl
theorem ahd_le (l:List Int):(ahd l).length <= l.length:=(List.takeWhile_sublist _).length_le
theorem parts (l:List Int):ahd l ++ sep (has l) ++ bhd l = l:=by
 induction l with
 | nil=>rfl
 | cons x l ih =>
  rw [ahd_cons,bhd_cons,has_cons];by_cases h:x = 10
  ·subst h;simp [sep]
  ·rw [if_neg h,if_neg h,show (x == 10) = false from by simpa using h,Bool.false_or,List.cons_append,List.cons_append,ih]
theorem has_no (l:List Int) (h:has l = false):ahd l = l /\ bhd l = []:=by
 induction l with
 | nil=>exact ⟨rfl,rfl⟩
 | cons x l ih =>
  rw [has_cons,Bool.or_eq_false_iff] at h;have hx:¬ x = 10:=by simpa using h.1
  rw [ahd_cons,bhd_cons,if_neg hx,if_neg hx,(ih h.2).1,(ih h.2).2];exact ⟨rfl,rfl⟩
theorem ahd_eq (l:List Int):ahd l = l.take (ahd l).length:=by
 conv=>rhs;rhs;rw [<- parts l]
 rw [List.append_assoc,List.take_left]
theorem bhd_eq (l:List Int):bhd l = l.drop ((ahd l).length + 1):=by
 induction l with
 | nil=>rfl
 | cons x l ih =>
  rw [ahd_cons,bhd_cons];by_cases h:x = 10
  ·rw [if_pos h,if_pos h];rfl
  ·rw [if_neg h,if_neg h,ih];rfl
theorem has_lt (l:List Int):has l = decide ((ahd l).length < l.length):=by
 induction l with
 | nil=>rfl
 | cons x l ih =>
  rw [ahd_cons,has_cons,ih];by_cases h:x = 10
  ·rw [if_pos h];subst h;simp
  ·rw [if_neg h,show (x == 10) = false from by simpa using h];simp
theorem ix_step (l:List Int) (k:Nat) (h:k <= (ahd l).length) (hk:k < l.length) (hx:l.getD k 0 ≠ 10):k + 1 <= (ahd l).length:=by
 induction l generalizing k with
 | nil=>simp at hk
 | cons x l ih =>
  rw [ahd_cons] at h |-;by_cases h0:x = 10
  ·rw [if_pos h0] at h
   have:k = 0:=by simpa using h
   subst this;exact absurd h0 (by simpa using hx)
  ·rw [if_neg h0] at h |-
   cases k with
   | zero=>simp
   | succ k =>
    have:=ih k (by simpa using h) (by simpa using hk) (by simpa using hx);simpa using this
theorem ix_hit (l:List Int) (k:Nat) (h:k <= (ahd l).length) (hk:k < l.length) (hx:l.getD k 0 = 10):(ahd l).length = k:=by
 induction l generalizing k with
 | nil=>simp at hk
 | cons x l ih =>
  rw [ahd_cons] at h |-;by_cases h0:x = 10
  ·rw [if_pos h0] at h |-
   have:k = 0:=by simpa using h
   subst this;rfl
  ·rw [if_neg h0] at h |-
   cases k with
   | zero=>exact absurd (by simpa using hx) h0
   | succ k =>
    have:=ih k (by simpa using h) (by simpa using hk) (by simpa using hx);simpa using this
theorem has_snoc (l:List Int) (x:Int):has (l ++ [x]) = (has l || x == 10):=by simp [has]
theorem ahd_snoc (l:List Int) (x:Int):ahd (l ++ [x]) = if has l = true \/ x = 10 then ahd l else ahd l ++ [x]:=by
 induction l with
 | nil =>
  rw [List.nil_append,ahd_cons];by_cases h:x = 10 <;> simp [h,has,ahd]
 | cons y l ih =>
  rw [List.cons_append,ahd_cons,ahd_cons,has_cons,ih];by_cases h:y = 10
  ·simp [h]
  ·simp only [h,if_false,show (y == 10) = false from by simpa using h,Bool.false_or]
   split <;> rfl
theorem bhd_snoc (l:List Int) (x:Int):bhd (l ++ [x]) = if has l = true then bhd l ++ [x] else []:=by
 induction l with
 | nil =>
  rw [List.nil_append,bhd_cons];by_cases h:x = 10 <;> simp [h,has,bhd]
 | cons y l ih =>
  rw [List.cons_append,bhd_cons,bhd_cons,has_cons,ih];by_cases h:y = 10
  ·simp [h]
  ·simp only [h,if_false,show (y == 10) = false from by simpa using h,Bool.false_or]
def fl (l:List Int):List Int:=(bhd l).filter fun x=>!(x == 10)
def cnt (l:List Int):Nat:=(l.filter fun x=>x == 10).length
theorem fl_snoc (l:List Int) (x:Int):fl (l ++ [x]) = if x = 10 then fl l else if has l = true then fl l ++ [x] else fl l:=by
 unfold fl;rw [bhd_snoc];by_cases h:has l = true
 ·rw [if_pos h,if_pos h,List.filter_append]
  by_cases h0:x = 10 <;> simp [h0]
 ·rw [if_neg h,if_neg h,(has_no l (by simpa using h)).2];simp
theorem cnt_snoc (l:List Int) (x:Int):cnt (l ++ [x]) = if x = 10 then cnt l + 1 else cnt l:=by
 unfold cnt;rw [List.filter_append];by_cases h0:x = 10 <;> simp [h0]
theorem cnt_le (l:List Int):cnt l <= l.length:=List.length_filter_le _ _
theorem cnt_nil:cnt [] = 0:=rfl
theorem cnt_has (l:List Int):cnt l = 0 ↔ has l = false:=by
 unfold cnt has;rw [List.length_eq_zero_iff,List.filter_eq_nil_iff,List.any_eq_false]
theorem cnt_parts (l:List Int):cnt l = (if has l = true then 1 else 0) + cnt (bhd l):=by
 induction l with
 | nil=>rfl
 | cons x l ih =>
  rw [bhd_cons,has_cons];by_cases h:x = 10
  ·subst h;simp [cnt];omega
  ·have e:cnt (x :: l) = cnt l:=by unfold cnt;rw [List.filter_cons_of_neg (by simpa using h)]
   rw [if_neg h,e,ih,show (x == 10) = false from by simpa using h,Bool.false_or]
theorem cnt_two (l:List Int):(1 < cnt l) ↔ has (bhd l) = true:=by
 have h1:=cnt_parts l;have h2:=cnt_has (bhd l);by_cases h:has l = true
 ·rw [if_pos h] at h1
  constructor
  ·intro hc
   cases hb:has (bhd l) with
   | true=>rfl
   | false=>have:=h2.2 hb;omega
  ·intro hb
   have:¬ cnt (bhd l) = 0:=fun e=>by rw [h2.1 e] at hb;cases hb
   omega
 ·have hn:=has_no l (by simpa using h)
  rw [if_neg h] at h1;rw [hn.2] at h1 |-;simp only [cnt_nil] at h1;simp [has];omega
theorem fl_one (l:List Int) (h:has (bhd l) = false):fl l = bhd l:=by
 unfold fl;rw [List.filter_eq_self];intro x hx;have:=List.any_eq_false.1 h x hx;simpa using this
def ofD (g:Bool) (l:List Int):T:=⟨g,ahd l,has l,bhd l⟩
def ofC (l:List Int):Int:=if okA l = true then (if has (bhd l) = true then 6 else 0) else 1
def ofR (g:Bool) (l:List Int):T:=if ofC l = 0 then ofD g l else T0
theorem ofC_bad {l:List Int} (h:okA l = false):ofC l = 1:=by unfold ofC;rw [h];rfl
theorem ofC_two {l:List Int} (h:okA l = true) (h2:has (bhd l) = true):ofC l = 6:=by unfold ofC;rw [if_pos h,if_pos h2]
theorem ofC_ok {l:List Int} (h:okA l = true) (h2:has (bhd l) = false):ofC l = 0:=by unfold ofC;rw [if_pos h,h2];rfl
theorem ofR_bad {g:Bool} {l:List Int} (h:okA l = false):ofR g l = T0:=by unfold ofR;rw [ofC_bad h];rfl
theorem ofR_two {g:Bool} {l:List Int} (h:okA l = true) (h2:has (bhd l) = true):ofR g l = T0:=by unfold ofR;rw [ofC_two h h2];rfl
theorem ofR_ok {g:Bool} {l:List Int} (h:okA l = true) (h2:has (bhd l) = false):ofR g l = ofD g l:=by unfold ofR;rw [ofC_ok h h2];rfl
theorem ats_of (g:Bool) (l:List Int):ats (ofD g l) = l:=parts l
theorem okA_append (a b:List Int):okA (a ++ b) = (okA a && okA b):=by simp [okA]
theorem ten_no (l:List Int) (h:okD l):has l = false:=by
 unfold has;rw [List.any_eq_false];intro x hx;have:=h x hx;simp;omega
theorem okA_dig (l:List Int) (h:okD l):okA l = true:=(okA_iff l).2 fun d hd=>by have:=h d hd;omega
theorem may_dig {d:T} (h:may d = true):okD d.i /\ okD d.f /\ (d.s = false -> d.f = []):=by
 simp only [may,Bool.and_eq_true,Bool.or_eq_true] at h;refine ⟨(okB_iff _).1 h.1.1,(okB_iff _).1 h.1.2,fun hs=>?_⟩;rcases h.2 with h2 | h2
 ·rw [hs] at h2;cases h2
 ·simpa using h2
theorem okA_ats {d:T} (h:may d = true):okA (ats d) = true:=by
 obtain ⟨h1,h2,_⟩:=may_dig h;unfold ats;rw [okA_append,okA_append,okA_dig _ h1,okA_dig _ h2];cases d.s <;> rfl
theorem ahd_app (a b:List Int) (h:has a = false):ahd (a ++ b) = a ++ ahd b:=by
 induction a with
 | nil=>rfl
 | cons x a ih =>
  rw [has_cons,Bool.or_eq_false_iff] at h;have hx:¬ x = 10:=by simpa using h.1
  rw [List.cons_append,ahd_cons,if_neg hx,ih h.2];rfl
theorem bhd_app (a b:List Int) (h:has a = false):bhd (a ++ b) = bhd b:=by
 induction a with
 | nil=>rfl
 | cons x a ih =>
  rw [has_cons,Bool.or_eq_false_iff] at h;have hx:¬ x = 10:=by simpa using h.1
  rw [List.cons_append,bhd_cons,if_neg hx,ih h.2]
theorem has_app (a b:List Int):has (a ++ b) = (has a || has b):=by simp [has]
theorem of_ats {d:T} (h:may d = true):ofD d.g (ats d) = d /\ has (bhd (ats d)) = false:=by
 obtain ⟨h1,h2,h3⟩:=may_dig h;obtain ⟨g,i,s,f⟩:=d;dsimp only at h1 h2 h3;have e1:=ten_no i h1;have e2:=ten_no f h2;unfold ofD ats;dsimp only;rw [List.append_assoc,ahd_app _ _ e1,bhd_app _ _ e1,has_app,e1,Bool.false_or];cases s with
 | true =>
  refine ⟨?_,?_⟩
  ·simp [sep,ahd_cons,bhd_cons,has_cons]
  ·show has (bhd (10 :: f)) = false
   rw [bhd_cons,if_pos rfl];exact e2
 | false =>
  obtain rfl:=h3 rfl;refine ⟨?_,rfl⟩;simp [sep,ahd,bhd,has]
theorem may_of (g:Bool) (l:List Int) (h:okA l = true) (h2:has (bhd l) = false):may (ofD g l) = true:=by
 have hp:=parts l;have ho:=(okA_iff l).1 h;rw [<- hp] at ho;have hd1:okD (ahd l):=fun d hd=>by
  have h3:=ho d (by simp [hd]);have h4:(!(d == 10)) = true:=List.all_eq_true.1 (List.all_takeWhile (l:=l) (p:=fun x=>!(x == 10))) d hd;have:¬ d = 10:=by simpa using h4
  omega
 have hd2:okD (bhd l):=fun d hd=>by
  have h3:=ho d (by simp [hd]);have h4:=List.any_eq_false.1 h2 d hd;have:¬ d = 10:=by simpa using h4
  omega
 unfold may ofD;dsimp only;rw [(okB_iff _).2 hd1,(okB_iff _).2 hd2,Bool.true_and,Bool.true_and];cases h4:has l with
 | true=>rfl
 | false=>rw [(has_no l h4).2];rfl
def spl (d:T) (i j:Int) (A:List Int):List Int:=(ats d).take i.toNat ++ A ++ (ats d).drop j.toNat
def spC (d:T) (i j:Int) (A:List Int):Int:=if (may d && okA A) = true then (if i < 0 \/ j < i \/ ((ats d).length:Int) < j then 3 else ofC (spl d i j A)) else 1
def spR (d:T) (i j:Int) (A:List Int):T:=if spC d i j A = 0 then ofD d.g (spl d i j A) else T0
theorem spC_in {d:T} {i j:Int} {A:List Int} (h:(may d && okA A) = true) (h2:¬ (i < 0 \/ j < i \/ ((ats d).length:Int) < j)):spC d i j A = ofC (spl d i j A) /\ spR d i j A = ofR d.g (spl d i j A):=by
 have e:spC d i j A = ofC (spl d i j A):=by unfold spC;rw [if_pos h,if_neg h2]
 exact ⟨e,by unfold spR ofR;rw [e]⟩
def zeb (l:List Int):Nat:=zer l.reverse
theorem zeb_le (l:List Int):zeb l <= l.length:=by have:=zer_le l.reverse;rwa [List.length_reverse] at this
theorem getD_rev (l:List Int) (k:Nat) (hk:k < l.length):l.reverse.getD k 0 = l.getD (l.length - 1 - k) 0:=by
 rw [List.getD_eq_getElem?_getD,List.getD_eq_getElem?_getD,List.getElem?_reverse hk]
theorem zeb_step (l:List Int) (k:Nat) (h:k <= zeb l) (hk:k < l.length) (h0:l.getD (l.length - 1 - k) 0 = 0):k + 1 <= zeb l :=
 zer_step l.reverse k h (by rwa [List.length_reverse]) (by rw [getD_rev l k hk];exact h0)
theorem zeb_hit (l:List Int) (k:Nat) (h:k <= zeb l) (hk:k < l.length) (h0:l.getD (l.length - 1 - k) 0 ≠ 0):zeb l = k :=
 zer_hit l.reverse k h (by rwa [List.length_reverse]) (by rw [getD_rev l k hk];exact h0)
theorem zeb_parts (l:List Int):l = l.take (l.length - zeb l) ++ List.replicate (zeb l) 0 /\ (l.take (l.length - zeb l) = [] \/ ∃ a d,l.take (l.length - zeb l) = a ++ [d] /\ d ≠ 0):=by
 have h1:l.reverse = List.replicate (zeb l) 0 ++ trimL l.reverse:=by
  have:=List.takeWhile_append_dropWhile (p:=fun x:Int=>x == 0) (l:=l.reverse);have h2:l.reverse.takeWhile (fun x=>x == 0) = List.replicate (zeb l) 0:=by
   rw [List.eq_replicate_iff];refine ⟨rfl,fun b hb=>?_⟩;have h4:=List.all_eq_true.1 (List.all_takeWhile (l:=l.reverse) (p:=fun x:Int=>x == 0)) b hb;simpa using h4
  rw [h2] at this;exact this.symm
 have h2:l = (trimL l.reverse).reverse ++ List.replicate (zeb l) 0:=by
  have:=congrArg List.reverse h1;rw [List.reverse_reverse,List.reverse_append,List.reverse_replicate] at this;exact this
 have h3:(trimL l.reverse).reverse.length = l.length - zeb l:=by
  rw [List.length_reverse,trim_len,List.length_reverse];rfl
 have h4:l.take (l.length - zeb l) = (trimL l.reverse).reverse:=by
  conv=>lhs;rhs;rw [h2]
  rw [<- h3,List.take_left]
 rw [h4];refine ⟨h2,?_⟩;rcases trim_head l.reverse with h5 | ⟨d,r,h5,hd⟩
 ·exact .inl (by rw [h5];rfl)
 ·exact .inr ⟨r.reverse,d,by rw [h5,List.reverse_cons],hd⟩
theorem st_fit (I R:List Int) (h:R = [] \/ ∃ a d,R = a ++ [d] /\ d ≠ 0) (hR:okD R):st (num (I ++ R)) R.length = (num (I ++ R),R.length):=by
 rcases h with rfl | ⟨a,d,rfl,hd⟩
 ·rfl
 ·have h1:0 <= d /\ d <= 9:=hR d (by simp)
  rw [<- List.append_assoc,num_snoc,List.length_append];exact st_end _ _ (by omega)
theorem dec_cut (I F:List Int) (hI:okD I) (hF:okD F) (z:Nat) (hz:z = zeb F) (M:Nat) (hM:M = num (I ++ F)) :
  trimL (I ++ F.take (F.length - z)) = dg (st M F.length).1 /\ (M ≠ 0 -> (st M F.length).2 = F.length - z) /\ (M = 0 ↔ trimL (I ++ F.take (F.length - z)) = []):=by
 subst hz;subst hM;obtain ⟨h1,h2⟩:=zeb_parts F;have hz:=zeb_le F;have hl:(F.take (F.length - zeb F)).length = F.length - zeb F:=by rw [List.length_take];omega
 have hR:okD (F.take (F.length - zeb F)):=okD_take hF _;obtain ⟨R,hR0⟩:∃ R,R = F.take (F.length - zeb F):=⟨_,rfl⟩;rw [<- hR0] at h1 h2 hl hR |-;have e:num (I ++ F) = num (I ++ R) * 10 ^ zeb F:=by
  conv=>lhs;rw [h1]
  rw [<- List.append_assoc,num_zeros]
 have e2:st (num (I ++ F)) F.length = (num (I ++ R),R.length):=by
  rw [e,show F.length = R.length + zeb F from by omega,st_tens,st_fit _ _ h2 hR]
 have e3:=trim_eq _ (okD_append.2 ⟨hI,hR⟩);refine ⟨by rw [e2,e3],fun _=>by rw [e2,hl],?_⟩;rw [e3,dg_nil,e];constructor
 ·intro h
  rcases Nat.mul_eq_zero.1 h with h | h
  ·exact h
  ·have:=Nat.pow_pos (n:=zeb F) (show 0 < 10 from by omega);omega
 ·intro h;rw [h,Nat.zero_mul]
theorem back (g:Bool) (I:List Int) (i:Nat) (A:List Int) (hI:okD I) (hi:i <= I.length) (hA:okA A = true) :
  spC ⟨g,I,false,[]⟩ i i A = (if 1 < cnt A then 6 else 0) /\
  (cnt A <= 1 -> spR ⟨g,I,false,[]⟩ i i A = ofD g (I.take i ++ A ++ I.drop i) /\ (ats (spR ⟨g,I,false,[]⟩ i i A)).length = I.length + A.length /\ may (spR ⟨g,I,false,[]⟩ i i A) = true /\
   spC (spR ⟨g,I,false,[]⟩ i i A) i (i + A.length:Nat) [] = 0 /\ spR (spR ⟨g,I,false,[]⟩ i i A) i (i + A.length:Nat) [] = ⟨g,I,false,[]⟩):=by
 have hm:may ⟨g,I,false,[]⟩ = true:=by unfold may;dsimp only;rw [(okB_iff I).2 hI];rfl
 have ha:ats ⟨g,I,false,[]⟩ = I:=by simp [ats,sep]
 have hsp:spl ⟨g,I,false,[]⟩ i i A = I.take i ++ A ++ I.drop i:=by unfold spl;rw [ha];rfl
 have h1:=spC_in (d:=⟨g,I,false,[]⟩) (i:=i) (j:=i) (A:=A) (by rw [hm,hA];rfl) (by rw [ha];omega);rw [hsp] at h1;have hok:okA (I.take i ++ A ++ I.drop i) = true:=by
  rw [okA_append,okA_append,hA,okA_dig _ (okD_take hI i),okA_dig _ (okD_drop hI i)];rfl
 have hc:cnt (I.take i ++ A ++ I.drop i) = cnt A:=by
  have e1:=(cnt_has _).2 (ten_no _ (okD_take hI i));have e2:=(cnt_has _).2 (ten_no _ (okD_drop hI i));unfold cnt at *;rw [List.filter_append,List.filter_append,List.length_append,List.length_append,e1,e2];omega
 have h2:=cnt_two (I.take i ++ A ++ I.drop i);rw [hc] at h2;have hl:(I.take i ++ A ++ I.drop i).length = I.length + A.length:=by
  simp only [List.length_append,List.length_take,List.length_drop];omega
 by_cases hh:1 < cnt A
 ·refine ⟨by rw [h1.1,ofC_two hok (h2.1 hh),if_pos hh],fun h=>absurd hh (by omega)⟩
 ·have hb:has (bhd (I.take i ++ A ++ I.drop i)) = false:=by
   cases h3:has (bhd (I.take i ++ A ++ I.drop i)) with
   | false=>rfl
   | true=>exact absurd (h2.2 h3) hh
  refine ⟨by rw [h1.1,ofC_ok hok hb,if_neg hh],fun _=>?_⟩;have hR:spR ⟨g,I,false,[]⟩ i i A = ofD g (I.take i ++ A ++ I.drop i):=by rw [h1.2,ofR_ok hok hb]
  rw [hR];refine ⟨rfl,by rw [ats_of,hl],may_of g _ hok hb,?_⟩;have hm2:=may_of g _ hok hb;have ha2:=ats_of g (I.take i ++ A ++ I.drop i);have h4:=spC_in (d:=ofD g (I.take i ++ A ++ I.drop i)) (i:=i) (j:=(i + A.length:Nat)) (A:=[]) (by rw [hm2];rfl) (by rw [ha2,hl];omega);have hs2:spl (ofD g (I.take i ++ A ++ I.drop i)) i (i + A.length:Nat) [] = I:=by
   unfold spl;rw [ha2,Int.toNat_natCast,Int.toNat_natCast,List.append_nil];have e1:(I.take i).length = i:=by rw [List.length_take];omega
   have e2:(I.take i ++ A ++ I.drop i).take i = I.take i:=by
    rw [List.append_assoc,List.take_append_of_le_length (by omega)];conv=>lhs;lhs;rw [<- e1]
    rw [e1,List.take_of_length_le (by omega)]
   have e3:(I.take i ++ A ++ I.drop i).drop (i + A.length) = I.drop i:=by
    have:(I.take i ++ A).length = i + A.length:=by rw [List.length_append,e1]
    rw [<- this,List.drop_left]
   rw [e2,e3,List.take_append_drop]
  rw [hs2] at h4;have hn:=has_no I (ten_no I hI);have hbI:has (bhd I) = false:=by rw [hn.2];rfl
  refine ⟨by rw [h4.1,ofC_ok (okA_dig I hI) hbI],?_⟩;rw [h4.2,ofR_ok (okA_dig I hI) hbI];unfold ofD;rw [hn.1,hn.2,ten_no I hI]
end Tm
section
open Go.RowKit
theorem infoByte:(Tryz.prog.info? 5).map (fun i=>(i.zero,i.size,i.bytes)) = some (some (.int .u8 0),1,1):=by kernel_rfl
end
section
open Go.ChangeShapes Go.WideShapes Go.RowKit Go.Deep
namespace FrG
section
variable {H:Type} {enc:TypeId × Value -> H} {P:Program} {w:World} {base:Nat} {spare:Nat -> Bool} {held:Bool}
theorem open_fields {r:Reach} {b0:Nat} {t:TypeId} {fs:Array Field} {v:Value} {d:DataW H} {p:List MemPlace} (hs:P.underlying t = some (.struct fs)) (hone:oneCellFields P fs = true) (hC:P.cellsOf t = fs.size)
  (hv:Value.okWide P w r b0 t v) (h:DataW.Trod enc P w base spare held t v d p) :
  ∃ cs:Array Value,v = .agg cs /\ cs.size = fs.size /\ ∀ (i:Nat) (f:Field) (c:Value),fs[i]? = some f -> cs[i]? = some c -> ∃ n y,DataW.trod enc P w base spare held n f.type ([c]:List Value) = some y:=by
 obtain ⟨cs,rfl,hsz⟩:=okWide_struct hs hv;obtain ⟨fuel,hf⟩:=h;obtain ⟨xs,n,_,_,_,hxl,hx⟩:=DataW.trod_struct hs hf;refine ⟨cs,rfl,hsz.trans hC,fun i f c hfi hci=>?_⟩;obtain ⟨o,k⟩:=hone_of hone i f hfi;have h1:=hx i f hfi;rw [o,k] at h1;have hi:i < fs.size:=(Array.getElem?_eq_some_iff.1 hfi).1;have h2:((Value.agg cs).cells.toList.drop i).take 1 = [c]:=by
  have h3:cs.toList[i]? = some c:=by simpa using hci
  have h4:(cs.toList.drop i).take 1 = [c]:=by
   obtain ⟨hlt,he⟩:=List.getElem?_eq_some_iff.1 h3;rw [List.drop_eq_getElem_cons hlt,he];rfl
  simpa [Value.cells] using h4
 rw [h2] at h1;obtain ⟨y,hy⟩:∃ y,xs[i]? = some y:=⟨xs[i]'(by omega),List.getElem?_eq_getElem (by omega)⟩;exact ⟨n,y,h1.trans hy⟩
end
theorem lst_of {H:Type} {enc:TypeId × Value -> H} {P:Program} {W:World} {held:Bool} {t e:TypeId} (h1:P.underlying t = some (.slice e)) (h2:P.underlying e = some (.int .i64)) (h3:P.cellsOf e = 1) {c:Value}
  (h:∃ n y,DataW.trod enc P W 0 (fun _=>true) held n t [c] = some y):∃ xs,Lst W c xs /\ ∀ n ∈ xs,-9223372036854775808 <= n /\ n <= 9223372036854775807:=by
 obtain ⟨n,y,h⟩:=h;rcases open_ints h1 h2 h3 h with ⟨hcs,_⟩ | ⟨x,l,c',zs,hcs,_,hl,hm,hz,_,hcell,hwz⟩
 ·obtain rfl:c = .slice none 0 0:=by simpa using hcs
  exact ⟨[],.nil _ _ _ (by unfold maxLen;omega) (fun _=>rfl),by simp⟩
 ·obtain rfl:c = .slice (some x) l c':=by simpa using hcs
  obtain ⟨xs,hx,_,hb⟩:=IsRow.lst (w:=W) (.inr ⟨_,rfl,hl,hm,by simpa using hz,hcell,hwz⟩);exact ⟨xs,hx,hb⟩
theorem bool_of {H:Type} {enc:TypeId × Value -> H} {P:Program} {W:World} {held:Bool} {t:TypeId} (h1:P.underlying t = some .bool) {c:Value}
  (h:∃ n y,DataW.trod enc P W 0 (fun _=>true) held n t [c] = some y):∃ b,c = .bool b:=by
 obtain ⟨n,y,h⟩:=h;obtain ⟨b,h,_⟩:=DataW.trod_bool h1 h;exact ⟨b,by simpa using h⟩
theorem int_of {H:Type} {enc:TypeId × Value -> H} {P:Program} {W:World} {held:Bool} {t:TypeId} (h1:P.underlying t = some (.int .i64)) {c:Value}
  (h:∃ n y,DataW.trod enc P W 0 (fun _=>true) held n t [c] = some y):∃ i,c = .int .i64 i /\ -9223372036854775808 <= i /\ i <= 9223372036854775807:=by
 obtain ⟨n,y,h⟩:=h;obtain ⟨i,h,_,hw⟩:=DataW.trod_int h1 h;exact ⟨i,by simpa using h,bounds_i64 hw⟩
end FrG
end
namespace Gm
open Um Cm
structure St where
 k:Int
 d:Bool
 s:Bool
 o:Bool
def st0:St:=⟨-1,false,false,false⟩
def alB (k:Int):Bool:=decide (k = 3) || decide (k = 1) || decide (k = 2)
def sylB (a k:Int):Bool :=
 if a = 9 then decide (k = 9) || decide (k = 10) || decide (k = 12) || decide (k = 13)
 else if a = 12 \/ a = 10 then decide (k = 10) || decide (k = 11)
 else if a = 13 \/ a = 11 then decide (k = 11) else false
def pairB (a k:Int):Bool :=
 if a = -1 then false else if a = 1 /\ k = 2 then true else if alB a = true \/ alB k = true then false
 else if k = 4 \/ k = 5 \/ k = 8 then true else if a = 7 then true else sylB a k
def stp (t:St) (k:Int):St:=⟨k,decide (k = 14) || (t.d && decide (k = 4)),t.d && decide (k = 5),decide (k = 6) && !t.o⟩
def jn (t:St) (k:Int):Bool:=pairB t.k k || (t.s && decide (k = 14)) || (t.o && decide (k = 6))
def stR:List Nat -> St
 | []=>st0
 | k :: r=>stp (stR r) k
def stL (l:List Int):St:=l.foldl (fun t c=>stp t (cls c)) st0
theorem stL_snoc (l:List Int) (c:Int):stL (l ++ [c]) = stp (stL l) (cls c):=by simp [stL]
theorem stL_rev (l:List Int):stL l = stR (l.map cls).reverse:=by
 have h:∀ r:List Int,stL r.reverse = stR (r.map cls):=by
  intro r;induction r with
  | nil=>rfl
  | cons c r ih=>rw [List.reverse_cons,stL_snoc,ih];rfl
 have:=h l.reverse;rw [List.reverse_reverse] at this;rw [this,List.map_reverse]
theorem stR_d (r:List Nat):(stR r).d = decide ((r.dropWhile (· == 4)).head? = some 14):=by
 induction r with
 | nil=>rfl
 | cons k r ih =>
  show (decide ((k:Int) = 14) || ((stR r).d && decide ((k:Int) = 4))) = _;rw [ih];by_cases h:k = 4
  ·subst h;simp
  ·have h1:((k:Int) = 4) = False:=by simp;omega
   rw [List.dropWhile_cons_of_neg (by simpa using h)];simp only [h1,decide_false,Bool.and_false,Bool.or_false,List.head?_cons,Option.some.injEq];rw [decide_eq_decide];omega
theorem stR_o (r:List Nat):(stR r).o = decide ((r.takeWhile (· == 6)).length % 2 = 1):=by
 induction r with
 | nil=>rfl
 | cons k r ih =>
  show (decide ((k:Int) = 6) && !(stR r).o) = _;rw [ih];by_cases h:k = 6
  ·subst h
   rw [List.takeWhile_cons_of_pos (by simp),List.length_cons];rw [show decide (((6:Nat):Int) = 6) = true from rfl,Bool.true_and];rw [Bool.eq_iff_iff];simp;omega
  ·have h1:((k:Int) = 6) = False:=by simp;omega
   rw [List.takeWhile_cons_of_neg (by simpa using h)];simp [h1]
def refR:List Nat -> Int -> Bool
 | [],_=>false
 | a :: r,k=>if a = 1 /\ k = 2 then true else if alB a = true \/ alB k = true then false
  else if sylB a k = true \/ k = 4 \/ k = 5 \/ k = 8 \/ a = 7 then true
  else if a = 5 /\ k = 14 then decide ((r.dropWhile (· == 4)).head? = some 14)
  else decide (k = 6) && decide (((a :: r).takeWhile (· == 6)).length % 2 = 1)
theorem stR_inv (r:List Nat):((stR r).d = true -> (stR r).k = 14 \/ (stR r).k = 4) /\ ((stR r).s = true -> (stR r).k = 5) /\ ((stR r).o = true -> (stR r).k = 6):=by
 cases r with
 | nil=>simp [stR,st0]
 | cons k r =>
  refine ⟨fun h=>?_,fun h=>?_,fun h=>?_⟩
  ·have h':(decide ((k:Int) = 14) || ((stR r).d && decide ((k:Int) = 4))) = true:=h
   show (k:Int) = 14 \/ (k:Int) = 4;simp at h';omega
  ·have h':((stR r).d && decide ((k:Int) = 5)) = true:=h
   show (k:Int) = 5;simp at h';omega
  ·have h':(decide ((k:Int) = 6) && !(stR r).o) = true:=h
   show (k:Int) = 6;simp at h';omega
theorem jn_ref (r:List Nat) (k:Int):jn (stR r) k = refR r k:=by
 cases r with
 | nil=>simp [jn,stR,st0,refR,pairB]
 | cons a r =>
  have hk:(stR (a :: r)).k = (a:Int):=rfl;have hs:(stR (a :: r)).s = ((stR r).d && decide ((a:Int) = 5)):=rfl;have ho:=stR_o (a :: r);have hi:=(stR_inv (a :: r)).2.2;have hd:=stR_d r;unfold jn;rw [hk,hs];unfold refR pairB;rw [if_neg (by omega)];rw [hk] at hi;have e1:((a:Int) = 1 /\ k = 2) = (a = 1 /\ k = 2):=by rw [eq_iff_iff];omega
  simp only [e1];by_cases c1:a = 1 /\ k = 2
  ·rw [if_pos c1,if_pos c1];rfl
  ·rw [if_neg c1,if_neg c1]
   by_cases c2:alB (a:Int) = true \/ alB k = true
   ·rw [if_pos c2,if_pos c2]
    rcases c2 with c2 | c2
    ·have h5:¬ ((a:Int) = 5):=by intro e;rw [e] at c2;revert c2;decide
     have h6:¬ (a:Int) = 6:=by intro e;rw [e] at c2;revert c2;decide
     have:(stR (a :: r)).o = false:=by
      cases h:(stR (a :: r)).o
      ·rfl
      ·exact absurd (hi h) h6
     rw [this];simp [h5]
    ·have h5:¬ (k = 14):=by intro e;rw [e] at c2;revert c2;decide
     have h6:¬ (k = 6):=by intro e;rw [e] at c2;revert c2;decide
     simp [h5,h6]
   ·rw [if_neg c2,if_neg c2]
    by_cases c3:k = 4 \/ k = 5 \/ k = 8
    ·rw [if_pos c3,if_pos (.inr (by omega))];rfl
    ·rw [if_neg c3]
     by_cases c4:(a:Int) = 7
     ·rw [if_pos c4,if_pos (.inr (by omega))];rfl
     ·rw [if_neg c4]
      by_cases c5:sylB a k = true
      ·rw [if_pos (.inl c5),c5];rfl
      ·rw [if_neg (by rintro (h | h);exact c5 h;omega)]
       have c5':sylB a k = false:=by simpa using c5
       rw [c5',Bool.false_or];by_cases c6:a = 5 /\ k = 14
       ·obtain ⟨rfl,rfl⟩:=c6
        rw [if_pos ⟨rfl,rfl⟩,hd];simp
       ·rw [if_neg c6,ho]
        have:((stR r).d && decide ((a:Int) = 5) && decide (k = 14)) = false:=by
         by_cases h5:(a:Int) = 5
         ·have:¬ k = 14:=fun h=>c6 ⟨by omega,h⟩
          simp [this]
         ·simp [h5]
        rw [this,Bool.false_or,Bool.and_comm]
def stMs (ms:List (Int × Nat × Bool)):St:=stL (ms.map (·.1))
def begF (t:St) (p:Nat):List (Int × Nat × Bool) -> List Int
 | []=>[]
 | m :: r=>(if jn t (cls m.1) = true then [] else [(p:Int)]) ++ begF (stp t (cls m.1)) (p + m.2.1) r
def begL (l:List UInt8):List Int:=begF st0 0 (marks l)
def width (ms:List (Int × Nat × Bool)):Nat:=(ms.map (·.2.1)).sum
theorem begF_append (t:St) (p:Nat) (a b:List (Int × Nat × Bool)) :
  begF t p (a ++ b) = begF t p a ++ begF ((a.map (·.1)).foldl (fun t c=>stp t (cls c)) t) (p + width a) b:=by
 induction a generalizing t p with
 | nil=>simp [begF,width]
 | cons m a ih =>
  simp only [List.cons_append,begF,ih,List.map_cons,List.foldl_cons,List.append_assoc,width,List.sum_cons];rw [Nat.add_assoc]
theorem begF_snoc (ms:List (Int × Nat × Bool)) (m:Int × Nat × Bool) :
  begF st0 0 (ms ++ [m]) = begF st0 0 ms ++ (if jn (stMs ms) (cls m.1) = true then [] else [(width ms:Int)]):=by
 rw [begF_append];simp only [begF,List.append_nil,Nat.zero_add];rfl
theorem stMs_snoc (ms:List (Int × Nat × Bool)) (m:Int × Nat × Bool):stMs (ms ++ [m]) = stp (stMs ms) (cls m.1):=by
 unfold stMs;rw [List.map_append];exact stL_snoc _ _
theorem width_snoc (ms:List (Int × Nat × Bool)) (m:Int × Nat × Bool):width (ms ++ [m]) = width ms + m.2.1:=by simp [width]
theorem begF_pre (a b:List (Int × Nat × Bool)):begF st0 0 a <+: begF st0 0 (a ++ b):=by rw [begF_append];exact List.prefix_append _ _
theorem begF_length (t:St) (p:Nat) (ms:List (Int × Nat × Bool)):(begF t p ms).length <= ms.length:=by
 induction ms generalizing t p with
 | nil=>simp [begF]
 | cons m ms ih =>
  have:=ih (stp t (cls m.1)) (p + m.2.1);simp only [begF,List.length_append,List.length_cons];split <;> simp <;> omega
theorem begL_length (l:List UInt8):(begL l).length <= l.length:=Nat.le_trans (begF_length _ _ _) (marks_length l)
theorem begF_bd (t:St) (p:Nat) (ms:List (Int × Nat × Bool)):∀ x ∈ begF t p ms,(p:Int) <= x /\ x <= p + width ms:=by
 induction ms generalizing t p with
 | nil=>simp [begF]
 | cons m ms ih =>
  intro x hx;have hw:width (m :: ms) = m.2.1 + width ms:=by simp [width]
  rw [begF,List.mem_append] at hx;rcases hx with hx | hx
  ·split at hx
   ·cases hx
   ·rw [List.mem_singleton] at hx;omega
  ·have:=ih _ _ x hx
   omega
theorem width_marks (l:List UInt8):width (marks l) = l.length:=by
 refine marks_ind (p:=fun l=>width (marks l) = l.length) rfl ?_ l;intro l hl ih;have:=mark_n l hl;rw [marks_cons l hl];show (mrk l).2.1 + width (marks (l.drop (mrk l).2.1)) = _;rw [ih,List.length_drop];omega
def frsL (l:List UInt8):Int:=((begL l).find? (fun x=>decide (0 < x))).getD l.length
theorem frsL_none (l:List UInt8) (h:∀ x ∈ begL l,¬ 0 < x):frsL l = l.length:=by
 unfold frsL;rw [List.find?_eq_none.2 (by simpa using h)];rfl
theorem frsL_some (l:List UInt8) (r:List Int) (x:Int) (hp:r ++ [x] <+: begL l) (hx:0 < x) (h:∀ y ∈ r,¬ 0 < y):frsL l = x:=by
 obtain ⟨t,ht⟩:=hp;unfold frsL;rw [<- ht,List.append_assoc,List.find?_append,List.find?_eq_none.2 (by simpa using h)];simp [hx]
end Gm
section
namespace Pt
open Um
/-! ### numbers made of any -/
def nmB (c:Int):Bool:=c == 35 || c == 48 || c == 44 || c == 46
theorem nmB_kind {c:Int} (h:nmB c = true):c ≠ 39 /\ kindC c = 4:=by
 simp only [nmB,Bool.or_eq_true,beq_iff_eq] at h;rcases h with ((rfl | rfl) | rfl) | rfl <;> decide
theorem nmT_all:∀ z,z < 7 -> ∀ p,p < 5 -> ∀ q,q < 5 -> ∀ a,a < 4 -> ∀ b,b < 4 ->
  ((match num (nmT z p q a b) with | none=>false | some n=>!n.long) && (nmT z p q a b).all nmB && decide (1 <= (nmT z p q a b).length /\ (nmT z p q a b).length <= 20)) = true:=by decide +kernel
theorem nmT_ok {z p q a b:Nat} (hz:z < 7) (hp:p < 5) (hq:q < 5) (ha:a < 4) (hb:b < 4) :
  (∃ n,num (nmT z p q a b) = some n /\ n.long = false) /\ (∀ c ∈ nmT z p q a b,nmB c = true) /\ 1 <= (nmT z p q a b).length /\ (nmT z p q a b).length <= 20:=by
 have h:=nmT_all z hz p hp q hq a ha b hb;simp only [Bool.and_eq_true,List.all_eq_true,decide_eq_true_eq] at h;refine ⟨?_,h.1.2,h.2⟩;have h1:=h.1.1;cases hn:num (nmT z p q a b) with
 | none=>rw [hn] at h1;cases h1
 | some n=>rw [hn] at h1;exact ⟨n,rfl,by simpa using h1⟩
theorem sign_out (ns:List Int) (h:∀ c ∈ ns,nmB c = true):outS false false ns = some (ns.map fun c=>(4,c),false,false):=by
 induction ns with
 | nil=>rfl
 | cons c r ih =>
  obtain ⟨h1,h2⟩:=nmB_kind (h c List.mem_cons_self);rw [outS_cons,if_neg h1,if_neg (by simp),h2,if_neg (by decide),ih fun d hd=>h d (List.mem_cons_of_mem _ hd)];rfl
theorem signs_out (c:Bool) (ns:List Int) (h:∀ c ∈ ns,nmB c = true) (hn:1 <= ns.length):outS c c ns = some (ns.map fun c=>(4,c),false,false):=by
 cases ns with
 | nil=>simp at hn
 | cons d r =>
  obtain ⟨h1,h2⟩:=nmB_kind (h d List.mem_cons_self);rw [outS_cons,if_neg h1,if_neg (by simp),h2,if_neg (by decide),sign_out r fun d hd=>h d (List.mem_cons_of_mem _ hd)];rfl
structure Hv (P N S:List (Int × Int)):Prop where
 p:okT P
 s:okT S
 n:∀ x ∈ N,x.1 = 4
theorem okT_isN {l:List (Int × Int)} (h:okT l):∀ x ∈ l,isN x = false:=fun x hx=>by
 have:=h x hx;unfold isN;rw [beq_eq_false_iff_ne];omega
theorem okT_isD {l:List (Int × Int)} (h:okT l):∀ x ∈ l,isD x = false:=fun x hx=>by
 have:=h x hx;unfold isD;rw [beq_eq_false_iff_ne];omega
theorem tw_all {α:Type} {f:α -> Bool} {a b:List α} (h:∀ x ∈ a,f x = true):(a ++ b).takeWhile f = a ++ b.takeWhile f /\ (a ++ b).dropWhile f = b.dropWhile f:=by
 induction a with
 | nil=>exact ⟨rfl,rfl⟩
 | cons x r ih =>
  have hx:=h x List.mem_cons_self;have:=ih fun y hy=>h y (List.mem_cons_of_mem _ hy);simp [List.takeWhile_cons,List.dropWhile_cons,hx,this]
theorem tw_no {α:Type} {f:α -> Bool} {a:List α} (h:∀ x ∈ a,f x = false):a.takeWhile f = [] /\ a.dropWhile f = a:=by
 cases a with
 | nil=>exact ⟨rfl,rfl⟩
 | cons x r=>simp [List.takeWhile_cons,List.dropWhile_cons,h x List.mem_cons_self]
theorem half_of {P N S:List (Int × Int)} (h:Hv P N S) (hN:1 <= N.length):half (P ++ N ++ S) = (num (N.map (·.2))).map fun n=>⟨joinT [] P,joinT [] S,n⟩:=by
 have e1:=tw_all (f:=fun x=>!isN x) (a:=P) (b:=N ++ S) fun x hx=>by rw [okT_isN h.p x hx];rfl
 have hNn:∀ x ∈ N,isN x = true:=fun x hx=>by unfold isN;rw [h.n x hx];rfl
 have e2:(N ++ S).takeWhile (fun x=>!isN x) = [] /\ (N ++ S).dropWhile (fun x=>!isN x) = N ++ S:=by
  cases N with
  | nil=>simp at hN
  | cons x r=>simp [List.takeWhile_cons,List.dropWhile_cons,hNn x List.mem_cons_self]
 have e3:=tw_all (f:=isN) (a:=N) (b:=S) hNn;have e4:=tw_no (f:=isN) (okT_isN h.s);have e5:S.any isN = false:=by
  rw [List.any_eq_false];intro x hx;rw [okT_isN h.s x hx];simp
 unfold half;rw [List.append_assoc];simp only [e1,e2,e3,e4,e5,List.append_nil,Bool.false_eq_true,if_false]
theorem Hv.noD {P N S:List (Int × Int)} (h:Hv P N S):∀ x ∈ P ++ N ++ S,isD x = false:=by
 intro x hx;rcases List.mem_append.1 hx with hx | hx
 ·rcases List.mem_append.1 hx with hx | hx
  ·exact okT_isD h.p x hx
  ·unfold isD;rw [h.n x hx];rfl
 ·exact okT_isD h.s x hx
theorem parse_one {P N S:List (Int × Int)} (h:Hv P N S) (hN:1 <= N.length) {n:Nm} (hn:num (N.map (·.2)) = some n) (hl:n.long = false) :
  parseT (P ++ N ++ S) = (mkP ⟨joinT [] P,joinT [] S,n⟩ ((3,[]) :: joinT [] P) (joinT [] S),0):=by
 have hd:=tw_all (f:=fun x=>!isD x) (a:=P ++ N ++ S) (b:=[]) fun x hx=>by rw [h.noD x hx];rfl
 rw [List.append_nil] at hd;unfold parseT;rw [hd.1,hd.2];simp only [List.takeWhile_nil,List.dropWhile_nil,List.append_nil,half_of h hN,hn,Option.map_some,hl,Bool.false_eq_true,if_false]
theorem parse_two {P N S P' N' S':List (Int × Int)} (h:Hv P N S) (hN:1 <= N.length) {n:Nm} (hn:num (N.map (·.2)) = some n) (hl:n.long = false) (h':Hv P' N' S') (hN':1 <= N'.length) {n':Nm} (hn':num (N'.map (·.2)) = some n') (hl':n'.long = false) :
  parseT (P ++ N ++ S ++ (5,59) :: (P' ++ N' ++ S')) = (mkP ⟨joinT [] P,joinT [] S,n⟩ (joinT [] P') (joinT [] S'),0):=by
 have hd:=tw_all (f:=fun x=>!isD x) (a:=P ++ N ++ S) (b:=(5,59) :: (P' ++ N' ++ S')) fun x hx=>by rw [h.noD x hx];rfl
 have h5:isD (5,59) = true:=rfl;have ha:(P' ++ N' ++ S').any isD = false:=by
  rw [List.any_eq_false];intro x hx;rw [h'.noD x hx];simp
 unfold parseT;rw [hd.1,hd.2];simp only [List.takeWhile_cons,List.dropWhile_cons,h5,Bool.not_true,Bool.false_eq_true,if_false,List.append_nil,half_of h hN,hn,Option.map_some,hl,ha,half_of h' hN',hn',hl',Bool.or_self]
def hfT (pre suf:List Int) (z p q a b:Nat):List Int:=sgL pre ++ nmT z p q a b ++ sgL suf
theorem hfT_out (pre suf:List Int) {z p q a b:Nat} (hz:z < 7) (hp:p < 5) (hq:q < 5) (ha:a < 4) (hb:b < 4) :
  ∃ P N S c,outS false false (hfT pre suf z p q a b) = some (P ++ N ++ S,c,c) /\ Hv P N S /\ N.map (·.2) = nmT z p q a b /\ 1 <= N.length:=by
 obtain ⟨_,h2,h3,_⟩:=nmT_ok hz hp hq ha hb;obtain ⟨P,c1,h4,h5⟩:=sgL_out pre false;obtain ⟨S,c2,h6,h7⟩:=sgL_out suf false;refine ⟨P,(nmT z p q a b).map fun c=>(4,c),S,c2,?_,⟨h5,h7,fun x hx=>?_⟩,?_,by rw [List.length_map];exact h3⟩
 ·unfold hfT
  rw [out_append,out_append,h4];simp [signs_out c1 _ h2 h3,h6]
 ·obtain ⟨d,_,rfl⟩:=List.mem_map.1 hx;rfl
 ·rw [List.map_map]
  conv=>rhs;rw [<- List.map_id (nmT z p q a b)]
  rfl
theorem halves (pre suf:List Int) {z p q a b:Nat} (hz:z < 7) (hp:p < 5) (hq:q < 5) (ha:a < 4) (hb:b < 4) :
  ∃ X:Pat,parseC (hfT pre suf z p q a b) = (X,0) /\ parseC (hfT pre suf z p q a b ++ 59 :: 45 :: hfT pre suf z p q a b) = (X,0) /\ X.npre = (3,[]) :: X.pre:=by
 obtain ⟨⟨n,hn,hl⟩,_⟩:=nmT_ok hz hp hq ha hb;obtain ⟨P,N,S,c,ho,hv,hN,hN1⟩:=hfT_out pre suf hz hp hq ha hb;rw [<- hN] at hn;have t1:tkn (hfT pre suf z p q a b) = some (P ++ N ++ S):=by
  unfold tkn;rw [tok_out,ho];simp
 have hv':Hv ((3,45) :: P) N S:=⟨fun x hx=>by
  rcases List.mem_cons.1 hx with rfl | hx
  ·simp
  ·exact hv.p x hx,hv.s,hv.n⟩
 have t2:tkn (hfT pre suf z p q a b ++ 59 :: 45 :: hfT pre suf z p q a b) = some (P ++ N ++ S ++ (5,59) :: ((3,45) :: P ++ N ++ S)):=by
  unfold tkn;rw [tok_append,ho];have e:tokS c c (59 :: 45 :: hfT pre suf z p q a b) = some ((5,59) :: (3,45) :: (P ++ N ++ S)):=by
   rw [tokS_cons,if_neg (by decide),if_neg (by simp),if_neg (by decide),tokS_cons,if_neg (by decide),if_neg (by decide),if_neg (by decide)];have:=t1;unfold tkn at this;rw [this];rfl
  simp [e]
 refine ⟨mkP ⟨joinT [] P,joinT [] S,n⟩ ((3,[]) :: joinT [] P) (joinT [] S),?_,?_,rfl⟩
 ·unfold parseC
  rw [t1];exact parse_one hv hN1 hn hl
 ·unfold parseC
  rw [t2];have:=parse_two hv hN1 hn hl hv' hN1 hn hl;have ej:joinT [] ((3,45) :: P) = (3,[]) :: joinT [] P:=rfl;rw [ej] at this;exact this
/-! ### long numbers -/
/-! ### a literal of whatever signs -/
def dbl (l:List Int):List Int:=l.flatMap fun c=>if c = 39 then [39,39] else [c]
def lit (l:List Int):List (Int × Int):=l.map fun c=>(0,c)
theorem dbl_cons (c:Int) (r:List Int):dbl (c :: r) = (if c = 39 then [39,39] else [c]) ++ dbl r:=rfl
theorem dbl_in (l:List Int):outS true false (dbl l) = some (lit l,true,false):=by
 induction l with
 | nil=>rfl
 | cons c r ih =>
  rw [dbl_cons];by_cases h:c = 39
  ·subst h
   rw [if_pos rfl];show outS true false (39 :: 39 :: dbl r) = _;rw [outS_cons,if_pos rfl,if_neg (by decide),outS_cons,if_pos rfl,if_pos rfl,ih];rfl
  ·rw [if_neg h]
   show outS true false (c :: dbl r) = _;rw [outS_cons,if_neg h,if_pos (by decide),ih];rfl
theorem dbl_first (l:List Int) (h:∃ c ∈ l,c ≠ 39):outS false true (dbl l) = some (lit l,true,false):=by
 induction l with
 | nil=>obtain ⟨c,hc,_⟩:=h;cases hc
 | cons c r ih =>
  rw [dbl_cons];by_cases hc:c = 39
  ·subst hc
   rw [if_pos rfl];show outS false true (39 :: 39 :: dbl r) = _;have hr:∃ c ∈ r,c ≠ 39:=by
    obtain ⟨d,hd,hn⟩:=h;rcases List.mem_cons.1 hd with rfl | hd
    ·exact absurd rfl hn
    ·exact ⟨d,hd,hn⟩
   rw [outS_cons,if_pos rfl,if_pos rfl,outS_cons,if_pos rfl,if_neg (by decide),ih hr];rfl
  ·rw [if_neg hc]
   show outS false true (c :: dbl r) = _;rw [outS_cons,if_neg hc,if_pos (by decide),dbl_in r];rfl
theorem dbl_only (l:List Int) (h:∀ c ∈ l,c = 39):outS false false (dbl l) = some (lit l,false,false):=by
 induction l with
 | nil=>rfl
 | cons c r ih =>
  obtain rfl:=h c List.mem_cons_self;rw [dbl_cons,if_pos rfl];show outS false false (39 :: 39 :: dbl r) = _;rw [outS_cons,if_pos rfl,if_neg (by decide),outS_cons,if_pos rfl,if_pos rfl,ih fun c hc=>h c (List.mem_cons_of_mem _ hc)];rfl
def fl (r:List Int):List Int:=if r.all (· == 39) = true then dbl r else 39 :: dbl r ++ [39]
theorem fl_out (r:List Int):∃ b,outS false false (fl r) = some (lit r,b,b):=by
 unfold fl;by_cases h:r.all (· == 39) = true
 ·rw [if_pos h]
  refine ⟨false,dbl_only r fun c hc=>?_⟩;have:=List.all_eq_true.1 h c hc;simpa using this
 ·rw [if_neg h]
  have hx:∃ c ∈ r,c ≠ 39:=by
   simp only [List.all_eq_true,beq_iff_eq,Classical.not_forall] at h;obtain ⟨c,hc,hn⟩:=h;exact ⟨c,hc,hn⟩
  refine ⟨true,?_⟩;rw [List.cons_append,outS_cons,if_pos rfl,if_neg (by decide),out_append,dbl_first r hx];simp [outS]
def spc (c:Int):Bool:=c == 39 || kindC c != 0
def prS:List Int -> List Int -> List Int
 | run,[]=>fl run
 | run,c :: r=>if spc c = true then prS (run ++ [c]) r else fl run ++ c :: prS [] r
theorem prS_out (l:List Int):∀ run,∃ b,outS false false (prS run l) = some (lit (run ++ l),b,b):=by
 induction l with
 | nil=>intro run;rw [List.append_nil];exact fl_out run
 | cons c r ih =>
  intro run;unfold prS;by_cases h:spc c = true
  ·rw [if_pos h]
   obtain ⟨b,hb⟩:=ih (run ++ [c]);exact ⟨b,by rw [hb,List.append_assoc];rfl⟩
  ·rw [if_neg h]
   have hk:c ≠ 39 /\ kindC c = 0:=by simpa [spc] using h
   obtain ⟨b,hb⟩:=fl_out run;obtain ⟨d,hd⟩:=ih [];refine ⟨d,?_⟩;rw [out_append,hb];simp only [Option.bind_some];rw [outS_cons,if_neg hk.1,if_neg (by simp),hk.2,if_neg (by decide),hd];simp [lit]
theorem okT_lit (l:List Int):okT (lit l):=fun x hx=>by
 obtain ⟨c,_,rfl⟩:=List.mem_map.1 hx;simp
def nm1:Nm:=⟨0,0,0,0,0,false⟩
theorem num_one:num [35] = some nm1:=by decide +kernel
def litP (l:List Int):Pat:=mkP ⟨joinT [] (lit l),[],nm1⟩ ((3,[]) :: joinT [] (lit l)) []
theorem parse_lit {cs l:List Int} (h:∃ b,outS false false cs = some (lit l,b,b)):parseC (cs ++ [35]) = (litP l,0):=by
 obtain ⟨b,hb⟩:=h;have t1:tkn (cs ++ [35]) = some (lit l ++ [(4,35)] ++ []):=by
  unfold tkn;rw [tok_append,hb];have:tokS b b [35] = some [(4,35)]:=by
   rw [tokS_cons,if_neg (by decide),if_neg (by simp),if_neg (by decide)];rfl
  simp [this]
 unfold parseC;rw [t1];exact parse_one (N:=[(4,35)]) ⟨okT_lit l,fun x hx=>absurd hx List.not_mem_nil,fun x hx=>by simp at hx;rw [hx]⟩ (by simp) num_one rfl
theorem quoted (l:List Int) (h:∃ c ∈ l,c ≠ 39):parseC (39 :: dbl l ++ [39] ++ [35]) = (litP l,0):=by
 refine parse_lit ⟨true,?_⟩;rw [List.cons_append,outS_cons,if_pos rfl,if_neg (by decide),out_append,dbl_first l h];simp [outS]
theorem printed (l:List Int):parseC (prS [] l ++ [35]) = (litP l,0):=parse_lit (prS_out l [])
end Pt
end
end Go.Proofs.YtdjhkbholijnmaaGreatDoor
