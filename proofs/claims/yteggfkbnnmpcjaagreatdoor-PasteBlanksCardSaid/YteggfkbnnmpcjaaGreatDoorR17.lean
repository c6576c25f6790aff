/- The document's own answers on patterns: number. (and more) -/
import Derived.Test.YteggfkbnnmpcjaaGreatDoorR14
set_option linter.all false
set_option maxRecDepth 100000
set_option maxHeartbeats 8000000
namespace Go.Proofs.YteggfkbnnmpcjaaGreatDoor
section
open Go.RowKit
namespace Pr
open Pt Um
abbrev nilV:Value:=.slice none 0 0
def pv (a b c d:Value) (p s i m x:Int):Value:=.agg #[a,b,c,d,.int .i64 p,.int .i64 s,.int .i64 i,.int .i64 m,.int .i64 x]
def PB (w:World) (g:Nat) (a b c d:Value) (p s i m x:Int):Prop:=w.heap[g]? = some (.cells #[a,b,c,d,.int .i64 p,.int .i64 s,.int .i64 i,.int .i64 m,.int .i64 x] 29)
theorem PB.lt {w:World} {g:Nat} {a b c d:Value} {p s i m x:Int} (h:PB w g a b c d p s i m x):g < w.heap.size:=(Array.getElem?_eq_some_iff.1 h).1
theorem PB.q {w w':World} {g:Nat} {a b c d:Value} {p s i m x:Int} (h:PB w g a b c d p s i m x) (hq:Q w w'):PB w' g a b c d p s i m x:=(hq.block h.lt).trans h
theorem PB.cells {w:World} {g:Nat} {a b c d:Value} {p s i m x:Int} (h:PB w g a b c d p s i m x) :
  w.cell? ⟨g,0,none⟩ = some a /\ w.cell? ⟨g,1,none⟩ = some b /\ w.cell? ⟨g,2,none⟩ = some c /\ w.cell? ⟨g,3,none⟩ = some d /\ w.cell? ⟨g,4,none⟩ = some (.int .i64 p) /\ w.cell? ⟨g,5,none⟩ = some (.int .i64 s) /\ w.cell? ⟨g,6,none⟩ = some (.int .i64 i) /\ w.cell? ⟨g,7,none⟩ = some (.int .i64 m) /\ w.cell? ⟨g,8,none⟩ = some (.int .i64 x):=by
 unfold PB at h;simp [World.cell?,h]
theorem PB.free {w:World} {g:Nat} {a b c d:Value} {p s i m x:Int} (h:PB w g a b c d p s i m x) :
  w.frozen? ⟨g,0,none⟩ = false /\ w.frozen? ⟨g,1,none⟩ = false /\ w.frozen? ⟨g,2,none⟩ = false /\ w.frozen? ⟨g,3,none⟩ = false /\ w.frozen? ⟨g,4,none⟩ = false /\ w.frozen? ⟨g,5,none⟩ = false /\ w.frozen? ⟨g,6,none⟩ = false /\ w.frozen? ⟨g,7,none⟩ = false /\ w.frozen? ⟨g,8,none⟩ = false:=by
 unfold PB at h;simp [World.frozen?,h]
theorem PB.all {w:World} {g:Nat} {a b c d a' b' c' d':Value} {p s i m x p' s' i' m' x':Int} (h:PB w g a b c d p s i m x) :
  PB (((((((((w.setCell ⟨g,0,none⟩ a').setCell ⟨g,1,none⟩ b').setCell ⟨g,2,none⟩ c').setCell ⟨g,3,none⟩ d').setCell ⟨g,4,none⟩ (.int .i64 p')).setCell ⟨g,5,none⟩ (.int .i64 s')).setCell ⟨g,6,none⟩ (.int .i64 i')).setCell ⟨g,7,none⟩ (.int .i64 m')).setCell ⟨g,8,none⟩ (.int .i64 x')) g a' b' c' d' p' s' i' m' x':=by
 unfold PB at *;have h0:=Joins.block_setCell h a' (i:=0);have h1:=Joins.block_setCell h0 b' (i:=1);have h2:=Joins.block_setCell h1 c' (i:=2);have h3:=Joins.block_setCell h2 d' (i:=3);have h4:=Joins.block_setCell h3 (.int .i64 p') (i:=4);have h5:=Joins.block_setCell h4 (.int .i64 s') (i:=5);have h6:=Joins.block_setCell h5 (.int .i64 i') (i:=6);have h7:=Joins.block_setCell h6 (.int .i64 m') (i:=7);have h8:=Joins.block_setCell h7 (.int .i64 x') (i:=8);simpa using h8
theorem PB.drew {w:World} {g:Nat} {a b c d:Value} {p s i m x:Int} (h:PB w g a b c d p s i m x):PB w.drew g a b c d p s i m x:=h
theorem infoP:(Tryz.prog.info? 29).map (·.size) = some 9:=by kernel_rfl
theorem ret_p3 {fn:Func} {p q r:Tmp} (h:fn.results = #[.cell p 29,.tmp q,.tmp r]) {R:Ending -> World -> Prop} {act:Act} {w:World} {g:Nat} {a b c d:Value} {pr s i m x:Int} {u v:Value}
  (hp:act.tmps.getD p undef = .pointer (some ⟨g,0,none⟩)) (hq:act.tmps.getD q undef = u) (hr:act.tmps.getD r undef = v) (hg:PB w g a b c d pr s i m x) (hd:act.defers = []) (hR:R (.returned (.tuple #[pv a b c d pr s i m x,u,v])) w):bodyPost Tryz.prog fn R .ret act w:=by
 refine bodyPost_ret (v:=.tuple #[pv a b c d pr s i m x,u,v]) ?_ hd hR;have e:(results fn act.tmps).run Tryz.prog w = ((asAddr (act.tmps.getD p undef)).run Tryz.prog w).andThen fun a w₁=>((loadVar 29 a).run Tryz.prog w₁).andThen fun v w₂=>.ok (.tuple #[v,act.tmps.getD q undef,act.tmps.getD r undef]) w₂:=by
  simp only [results,h];simp [Sem.run_bind,Result.andThen]
 rw [e,hp,hq,hr];unfold PB at hg;simp [asAddr,Result.andThen,run_loadVar_row w g 29 29 _ (0,0) _ hg Tryz.underlying29 rfl infoP,pv]
theorem numS_cons (n:NS) (c:Int) (r:List Int):numS n (c :: r) =
  if c = 46 then (if n.point = true \/ n.whole = 0 \/ (0 < n.commas /\ n.since = 0) then none else numS { n with point:=true } r)
  else if n.point = true then (if c = 44 \/ (c = 48 /\ n.minF < n.maxF) then none else numS { n with maxF:=n.maxF + 1,minF:=if c = 48 then n.minF + 1 else n.minF } r)
  else if c = 44 then (if n.since = 0 then none else numS { n with group:=n.since,since:=0,commas:=n.commas + 1 } r)
  else if c = 35 /\ 0 < n.zeros then none
  else numS { n with zeros:=if c = 48 then n.zeros + 1 else n.zeros,whole:=n.whole + 1,since:=n.since + 1 } r:=rfl
def bys (s:ByteArray):List Int:=s.data.toList.map fun b=>((b.toNat:Nat):Int)
theorem bys_len (s:ByteArray):(bys s).length = s.size:=by unfold bys;rw [List.length_map,size_list]
theorem bys_at (s:ByteArray) (k:Nat) (hk:k < s.size):(bys s).drop k = (((s[k]'hk).toNat:Nat):Int) :: (bys s).drop (k + 1):=by
 rw [drop_at (bys s) k (by rw [bys_len];exact hk)];congr 1
 unfold bys;rw [List.getD_eq_getElem?_getD,List.getElem?_eq_getElem (by rw [List.length_map,size_list];exact hk),List.getElem_map];rfl
structure NB (n:NS) (k:Nat):Prop where
 a:0 <= n.since /\ n.since <= k
 b:0 <= n.group /\ n.group <= k
 c:0 <= n.commas /\ n.commas <= k
 d:0 <= n.whole /\ n.whole <= k
 e:0 <= n.zeros /\ n.zeros <= k
 f:0 <= n.minF /\ n.minF <= k
 g:0 <= n.maxF /\ n.maxF <= k
theorem PB.other {w:World} {g:Nat} {a b c d:Value} {p s i m x:Int} (h:PB w g a b c d p s i m x) {ad:Addr} (hne:g ≠ ad.block) (v:Value):PB (w.setCell ad v) g a b c d p s i m x:=by
 unfold PB at *;rw [heap_setCell_other _ ad _ v hne];exact h
theorem PB.set7 {w:World} {g:Nat} {a b c d:Value} {p s i m x:Int} (h:PB w g a b c d p s i m x) (y:Int):PB (w.setCell ⟨g,7,none⟩ (.int .i64 y)) g a b c d p s i y x:=by
 have:=Joins.block_setCell h (.int .i64 y) (i:=7);unfold PB;simpa using this
theorem PB.set8 {w:World} {g:Nat} {a b c d:Value} {p s i m x:Int} (h:PB w g a b c d p s i m x) (y:Int):PB (w.setCell ⟨g,8,none⟩ (.int .i64 y)) g a b c d p s i m y:=by
 have:=Joins.block_setCell h (.int .i64 y) (i:=8);unfold PB;simpa using this
theorem PB.set4 {w:World} {g:Nat} {a b c d:Value} {p s i m x:Int} (h:PB w g a b c d p s i m x) (y:Int):PB (w.setCell ⟨g,4,none⟩ (.int .i64 y)) g a b c d y s i m x:=by
 have:=Joins.block_setCell h (.int .i64 y) (i:=4);unfold PB;simpa using this
theorem PB.set5 {w:World} {g:Nat} {a b c d:Value} {p s i m x:Int} (h:PB w g a b c d p s i m x) (y:Int):PB (w.setCell ⟨g,5,none⟩ (.int .i64 y)) g a b c d p y i m x:=by
 have:=Joins.block_setCell h (.int .i64 y) (i:=5);unfold PB;simpa using this
theorem PB.set6 {w:World} {g:Nat} {a b c d:Value} {p s i m x:Int} (h:PB w g a b c d p s i m x) (y:Int):PB (w.setCell ⟨g,6,none⟩ (.int .i64 y)) g a b c d p s y m x:=by
 have:=Joins.block_setCell h (.int .i64 y) (i:=6);unfold PB;simpa using this
theorem Q.puts {a w:World} (h:Q a w) {g:Nat} (hg:a.heap.size <= g) (v0 v1 v2 v3 v4 v5 v6 v7 v8:Value):Q a (((((((((w.setCell ⟨g,0,none⟩ v0).setCell ⟨g,1,none⟩ v1).setCell ⟨g,2,none⟩ v2).setCell ⟨g,3,none⟩ v3).setCell ⟨g,4,none⟩ v4).setCell ⟨g,5,none⟩ v5).setCell ⟨g,6,none⟩ v6).setCell ⟨g,7,none⟩ v7).setCell ⟨g,8,none⟩ v8) :=
 ((((((((h.setCell (ad:=⟨g,0,none⟩) hg _).setCell (ad:=⟨g,1,none⟩) hg _).setCell (ad:=⟨g,2,none⟩) hg _).setCell (ad:=⟨g,3,none⟩) hg _).setCell (ad:=⟨g,4,none⟩) hg _).setCell (ad:=⟨g,5,none⟩) hg _).setCell (ad:=⟨g,6,none⟩) hg _).setCell (ad:=⟨g,7,none⟩) hg _).setCell (ad:=⟨g,8,none⟩) hg _
def NumIs (r:Option Nm) (e:Ending):Prop :=
 (r = none /\ ∃ p q i m x,e = .returned (.tuple #[pv nilV nilV nilV nilV p q i m x,.bool false,.bool false])) \/
 ∃ n,r = some n /\ e = .returned (.tuple #[pv nilV nilV nilV nilV n.pr n.se n.mi n.mf n.xf,.bool true,.bool n.long])
theorem number_any (s:ByteArray) (w:World) (hs:s.size <= 1000000) :
  Calls Tryz.prog 169 #[.string s] w fun e w'=>NumIs (num (bys s)) e /\ Q w w':=by
 obtain ⟨R,hR⟩:∃ R,R = num (bys s):=⟨_,rfl⟩;have HR:=Hd hR;rw [<- hR];clear hR;have hb0:PB ((w.alloc (.cells #[nilV,nilV,nilV,nilV,.int .i64 0,.int .i64 0,.int .i64 0,.int .i64 0,.int .i64 0] 29)).alloc (.cells #[nilV,nilV,nilV,nilV,.int .i64 0,.int .i64 0,.int .i64 0,.int .i64 0,.int .i64 0] 29)) w.heap.size nilV nilV nilV nilV 0 0 0 0 0:=heap_alloc2_old _ _ _;have hb1:PB ((w.alloc (.cells #[nilV,nilV,nilV,nilV,.int .i64 0,.int .i64 0,.int .i64 0,.int .i64 0,.int .i64 0] 29)).alloc (.cells #[nilV,nilV,nilV,nilV,.int .i64 0,.int .i64 0,.int .i64 0,.int .i64 0,.int .i64 0] 29)) (w.heap.size + 1) nilV nilV nilV nilV 0 0 0 0 0:=heap_alloc2_new _ _ _;have HB0:=Hd hb0;have HB1:=Hd hb1;clear hb0 hb1;have HST:=Hd (fun (st:NS) (h:numS st [] = numS ns0 (bys s))=>(by rw [HR.out];unfold num;rw [<- h];rfl:R = numE st));go_enter Tryz.func169,Tryz.ntmps169
 go_wp2_with fail
 go_loopw [6,7,8,9,10,11,12] (fun vp vs vg vc vw vz i wr=>∃ (k:Nat) (pt:Bool) (si gr co wh ze mf xf:Int),i = .int .i64 k /\ vp = .bool pt /\ vs = .int .i64 si /\ vg = .int .i64 gr /\ vc = .int .i64 co /\ vw = .int .i64 wh /\ vz = .int .i64 ze /\ k <= s.size /\ NB ⟨pt,si,gr,co,wh,ze,mf,xf⟩ k /\ numS ⟨pt,si,gr,co,wh,ze,mf,xf⟩ ((bys s).drop k) = numS ns0 (bys s) /\ PB wr w.heap.size nilV nilV nilV nilV 0 0 0 0 0 /\ PB wr (w.heap.size + 1) nilV nilV nilV nilV 0 0 0 mf xf /\ Q w wr) (fun _ _ _ _ _ _ i _=>s.size - (intOf i).toNat)
 case atStart=>exact ⟨0,false,0,0,0,0,0,0,0,rfl,rfl,rfl,rfl,rfl,rfl,rfl,by omega,⟨by decide,by decide,by decide,by decide,by decide,by decide,by decide⟩,rfl,HB0.out,HB1.out,((Q.refl w).alloc _).alloc _⟩
 case round =>
  obtain ⟨k,pt,si,gr,co,wh,ze,mf,xf,rfl,rfl,rfl,rfl,rfl,rfl,rfl,hk,hnb,hst,hrb,hpb,hq⟩:=hrel;obtain ⟨n1,n2,n3,n4,n5,n6,n7⟩:=hnb;simp only at n1 n2 n3 n4 n5 n6 n7;obtain ⟨p0,p1,p2,p3,p4,p5,p6,p7,p8⟩:=hpb.cells;obtain ⟨f0,f1,f2,f3,f4,f5,f6,f7,f8⟩:=hpb.free;obtain ⟨r0,r1,r2,r3,r4,r5,r6,r7,r8⟩:=hrb.cells;obtain ⟨e0,e1,e2,e3,e4,e5,e6,e7,e8⟩:=hrb.free;have HRB:=Hd hrb;have HPB:=Hd hpb;have HQ:=Hd hq;clear hrb hpb hq;by_cases hlt:k < s.size
  ·have hlti:(k:Int) < (s.size:Int):=by omega
   rw [bys_at s k hlt,numS_cons] at hst;simp only at hst;have hub:=Ur.u8b (s[k]'hlt);have BAD:numS ns0 (bys s) = none -> R = none:=fun h=>by rw [HR.out];unfold num;rw [h];rfl
   have HBAD:=Hd BAD;clear BAD;have hcs:(((s[k]'hlt).toNat:Int) = 46 /\ (pt = true \/ (pt = false /\ wh = 0) \/ (pt = false /\ wh ≠ 0 /\ 0 < co /\ si = 0)) /\ Hid (R = none)) \/
     (((s[k]'hlt).toNat:Int) = 46 /\ pt = false /\ wh ≠ 0 /\ (¬ 0 < co \/ (0 < co /\ si ≠ 0)) /\ Hid (numS ⟨true,si,gr,co,wh,ze,mf,xf⟩ ((bys s).drop (k + 1)) = numS ns0 (bys s))) \/
     (((s[k]'hlt).toNat:Int) ≠ 46 /\ pt = true /\ (((s[k]'hlt).toNat:Int) = 44 \/ (((s[k]'hlt).toNat:Int) = 48 /\ mf < xf)) /\ Hid (R = none)) \/
     (((s[k]'hlt).toNat:Int) = 48 /\ pt = true /\ ¬ mf < xf /\ Hid (numS ⟨true,si,gr,co,wh,ze,mf + 1,xf + 1⟩ ((bys s).drop (k + 1)) = numS ns0 (bys s))) \/
     (((s[k]'hlt).toNat:Int) ≠ 46 /\ pt = true /\ ((s[k]'hlt).toNat:Int) ≠ 44 /\ ((s[k]'hlt).toNat:Int) ≠ 48 /\ Hid (numS ⟨true,si,gr,co,wh,ze,mf,xf + 1⟩ ((bys s).drop (k + 1)) = numS ns0 (bys s))) \/
     (((s[k]'hlt).toNat:Int) = 44 /\ pt = false /\ si = 0 /\ Hid (R = none)) \/
     (((s[k]'hlt).toNat:Int) = 44 /\ pt = false /\ si ≠ 0 /\ Hid (numS ⟨false,0,si,co + 1,wh,ze,mf,xf⟩ ((bys s).drop (k + 1)) = numS ns0 (bys s))) \/
     (((s[k]'hlt).toNat:Int) = 35 /\ pt = false /\ 0 < ze /\ Hid (R = none)) \/
     (((s[k]'hlt).toNat:Int) = 48 /\ pt = false /\ Hid (numS ⟨false,si + 1,gr,co,wh + 1,ze + 1,mf,xf⟩ ((bys s).drop (k + 1)) = numS ns0 (bys s))) \/
     (((s[k]'hlt).toNat:Int) ≠ 46 /\ pt = false /\ ((s[k]'hlt).toNat:Int) ≠ 44 /\ ((s[k]'hlt).toNat:Int) ≠ 48 /\ (((s[k]'hlt).toNat:Int) ≠ 35 \/ (((s[k]'hlt).toNat:Int) = 35 /\ ¬ 0 < ze)) /\ Hid (numS ⟨false,si + 1,gr,co,wh + 1,ze,mf,xf⟩ ((bys s).drop (k + 1)) = numS ns0 (bys s))):=by
    have hBAD:=HBAD.out;clear hub HBAD HR HST HRB HPB HQ;generalize ((s[k]'hlt).toNat:Int) = c at *;by_cases h1:c = 46
    ·rw [if_pos h1] at hst
     by_cases h2:pt = true \/ wh = 0 \/ (0 < co /\ si = 0)
     ·rw [if_pos h2] at hst
      refine .inl ⟨h1,?_,Hd (hBAD hst.symm)⟩;cases pt <;> simp at h2 |-
      rcases h2 with h2 | h2
      ·exact .inl h2
      ·by_cases hw:wh = 0
       ·exact .inl hw
       ·exact .inr ⟨hw,h2.1,h2.2⟩
     ·rw [if_neg h2] at hst
      refine .inr (.inl ⟨h1,?_,?_,?_,Hd hst⟩)
      ·cases pt <;> simp at h2 |-
      ·intro h;exact h2 (.inr (.inl h))
      ·by_cases h3:0 < co
       ·exact .inr ⟨h3,fun h=>h2 (.inr (.inr ⟨h3,h⟩))⟩
       ·exact .inl h3
    ·rw [if_neg h1] at hst
     cases pt
     ·rw [if_neg (by decide)] at hst
      by_cases h2:c = 44
      ·rw [if_pos h2] at hst
       by_cases h3:si = 0
       ·rw [if_pos h3] at hst
        exact .inr (.inr (.inr (.inr (.inr (.inl ⟨h2,rfl,h3,Hd (hBAD hst.symm)⟩)))))
       ·rw [if_neg h3] at hst
        exact .inr (.inr (.inr (.inr (.inr (.inr (.inl ⟨h2,rfl,h3,Hd hst⟩))))))
      ·rw [if_neg h2] at hst
       by_cases h3:c = 35 /\ 0 < ze
       ·rw [if_pos h3] at hst
        exact .inr (.inr (.inr (.inr (.inr (.inr (.inr (.inl ⟨h3.1,rfl,h3.2,Hd (hBAD hst.symm)⟩)))))))
       ·rw [if_neg h3] at hst
        by_cases h4:c = 48
        ·rw [if_pos h4] at hst
         exact .inr (.inr (.inr (.inr (.inr (.inr (.inr (.inr (.inl ⟨h4,rfl,Hd hst⟩))))))))
        ·rw [if_neg h4] at hst
         refine .inr (.inr (.inr (.inr (.inr (.inr (.inr (.inr (.inr ⟨h1,rfl,h2,h4,?_,Hd hst⟩))))))));by_cases h5:c = 35
         ·exact .inr ⟨h5,fun h=>h3 ⟨h5,h⟩⟩
         ·exact .inl h5
     ·rw [if_pos rfl] at hst
      by_cases h2:c = 44 \/ (c = 48 /\ mf < xf)
      ·rw [if_pos h2] at hst
       exact .inr (.inr (.inl ⟨h1,rfl,h2,Hd (hBAD hst.symm)⟩))
      ·rw [if_neg h2] at hst
       by_cases h4:c = 48
       ·rw [if_pos h4] at hst
        exact .inr (.inr (.inr (.inl ⟨h4,rfl,fun h=>h2 (.inr ⟨h4,h⟩),Hd hst⟩)))
       ·rw [if_neg h4] at hst
        exact .inr (.inr (.inr (.inr (.inl ⟨h1,rfl,fun h=>h2 (.inl h),h4,Hd hst⟩))))
   clear hst HBAD;rcases hcs with ⟨hc,h2,hx⟩ | ⟨hc,rfl,hw,h2,hx⟩ | ⟨hc,rfl,h2,hx⟩ | ⟨hc,rfl,h2,hx⟩ | ⟨hc,rfl,h2,h3,hx⟩ | ⟨hc,rfl,h2,hx⟩ | ⟨hc,rfl,h2,hx⟩ | ⟨hc,rfl,h2,hx⟩ | ⟨hc,rfl,hx⟩ | ⟨hc,rfl,h2,h3,h4,hx⟩
   ·rcases h2 with rfl | ⟨rfl,rfl⟩ | ⟨rfl,hw,hco,rfl⟩
    ·go_wp2_with fail
     refine ret_p3 rfl rfl rfl rfl (PB.all HRB.out) rfl ⟨.inl ⟨hx.out,_,_,_,_,_,rfl⟩,Q.puts HQ.out (Nat.le_refl _) _ _ _ _ _ _ _ _ _⟩
    ·go_wp2_with fail
     refine ret_p3 rfl rfl rfl rfl (PB.all HRB.out) rfl ⟨.inl ⟨hx.out,_,_,_,_,_,rfl⟩,Q.puts HQ.out (Nat.le_refl _) _ _ _ _ _ _ _ _ _⟩
    ·have hw0:(wh == 0) = false:=beq_eq_false_iff_ne.2 hw
     go_wp2_with fail
     refine ret_p3 rfl rfl rfl rfl (PB.all HRB.out) rfl ⟨.inl ⟨hx.out,_,_,_,_,_,rfl⟩,Q.puts HQ.out (Nat.le_refl _) _ _ _ _ _ _ _ _ _⟩
   ·have hw0:(wh == 0) = false:=beq_eq_false_iff_ne.2 hw
    rcases h2 with h2 | ⟨h2,hsi⟩
    ·go_wp2_with fail
     go_roundw
     case rel=>exact ⟨k + 1,true,si,gr,co,wh,ze,mf,xf,by go_num,rfl,rfl,rfl,rfl,rfl,rfl,by omega,⟨by simp only;omega,by simp only;omega,by simp only;omega,by simp only;omega,by simp only;omega,by simp only;omega,by simp only;omega⟩,hx.out,HRB.out,HPB.out,HQ.out⟩
     case measure=>simp [intOf];omega
    ·have hs0:(si == 0) = false:=beq_eq_false_iff_ne.2 hsi
     go_wp2_with fail
     go_roundw
     case rel=>exact ⟨k + 1,true,si,gr,co,wh,ze,mf,xf,by go_num,rfl,rfl,rfl,rfl,rfl,rfl,by omega,⟨by simp only;omega,by simp only;omega,by simp only;omega,by simp only;omega,by simp only;omega,by simp only;omega,by simp only;omega⟩,hx.out,HRB.out,HPB.out,HQ.out⟩
     case measure=>simp [intOf];omega
   ·have g46:(((s[k]'hlt).toNat:Int) == 46) = false:=beq_eq_false_iff_ne.2 hc
    clear hc;rcases h2 with h2 | ⟨h2,h3⟩
    ·go_wp2_with fail
     refine ret_p3 rfl rfl rfl rfl (PB.all HRB.out) rfl ⟨.inl ⟨hx.out,_,_,_,_,_,rfl⟩,Q.puts HQ.out (Nat.le_refl _) _ _ _ _ _ _ _ _ _⟩
    ·go_wp2_with fail
     refine ret_p3 rfl rfl rfl rfl (PB.all HRB.out) rfl ⟨.inl ⟨hx.out,_,_,_,_,_,rfl⟩,Q.puts HQ.out (Nat.le_refl _) _ _ _ _ _ _ _ _ _⟩
   ·go_wp2_with fail
    go_roundw
    case rel=>exact ⟨k + 1,true,si,gr,co,wh,ze,mf + 1,xf + 1,by go_num,rfl,rfl,rfl,rfl,rfl,rfl,by omega,⟨by simp only;omega,by simp only;omega,by simp only;omega,by simp only;omega,by simp only;omega,by simp only;omega,by simp only;omega⟩,hx.out,(HRB.out.other (ad:=⟨w.heap.size + 1,8,none⟩) (by simp) _).other (ad:=⟨w.heap.size + 1,7,none⟩) (by simp) _,(HPB.out.set8 _).set7 _,(HQ.out.setCell (ad:=⟨w.heap.size + 1,8,none⟩) (Nat.le_succ _) _).setCell (ad:=⟨w.heap.size + 1,7,none⟩) (Nat.le_succ _) _⟩
    case measure=>simp [intOf];omega
   ·have g46:(((s[k]'hlt).toNat:Int) == 46) = false:=beq_eq_false_iff_ne.2 hc
    have g44:(((s[k]'hlt).toNat:Int) == 44) = false:=beq_eq_false_iff_ne.2 h2;have g48:(((s[k]'hlt).toNat:Int) == 48) = false:=beq_eq_false_iff_ne.2 h3;clear hc h2 h3;go_wp2_with fail
    go_roundw
    case rel=>exact ⟨k + 1,true,si,gr,co,wh,ze,mf,xf + 1,by go_num,rfl,rfl,rfl,rfl,rfl,rfl,by omega,⟨by simp only;omega,by simp only;omega,by simp only;omega,by simp only;omega,by simp only;omega,by simp only;omega,by simp only;omega⟩,hx.out,HRB.out.other (ad:=⟨w.heap.size + 1,8,none⟩) (by simp) _,HPB.out.set8 _,HQ.out.setCell (ad:=⟨w.heap.size + 1,8,none⟩) (Nat.le_succ _) _⟩
    case measure=>simp [intOf];omega
   ·subst h2
    go_wp2_with fail
    refine ret_p3 rfl rfl rfl rfl (PB.all HRB.out) rfl ⟨.inl ⟨hx.out,_,_,_,_,_,rfl⟩,Q.puts HQ.out (Nat.le_refl _) _ _ _ _ _ _ _ _ _⟩
   ·have hs0:(si == 0) = false:=beq_eq_false_iff_ne.2 h2
    go_wp2_with fail
    go_roundw
    case rel=>exact ⟨k + 1,false,0,si,co + 1,wh,ze,mf,xf,by go_num,rfl,rfl,rfl,rfl,rfl,rfl,by omega,⟨by simp only;omega,by simp only;omega,by simp only;omega,by simp only;omega,by simp only;omega,by simp only;omega,by simp only;omega⟩,hx.out,HRB.out,HPB.out,HQ.out⟩
    case measure=>simp [intOf];omega
   ·go_wp2_with fail
    refine ret_p3 rfl rfl rfl rfl (PB.all HRB.out) rfl ⟨.inl ⟨hx.out,_,_,_,_,_,rfl⟩,Q.puts HQ.out (Nat.le_refl _) _ _ _ _ _ _ _ _ _⟩
   ·go_wp2_with fail
    go_roundw
    case rel=>exact ⟨k + 1,false,si + 1,gr,co,wh + 1,ze + 1,mf,xf,by go_num,rfl,rfl,rfl,rfl,rfl,rfl,by omega,⟨by simp only;omega,by simp only;omega,by simp only;omega,by simp only;omega,by simp only;omega,by simp only;omega,by simp only;omega⟩,hx.out,HRB.out,HPB.out,HQ.out⟩
    case measure=>simp [intOf];omega
   ·have g46:(((s[k]'hlt).toNat:Int) == 46) = false:=beq_eq_false_iff_ne.2 hc
    have g44:(((s[k]'hlt).toNat:Int) == 44) = false:=beq_eq_false_iff_ne.2 h2;have g48:(((s[k]'hlt).toNat:Int) == 48) = false:=beq_eq_false_iff_ne.2 h3;clear hc h2 h3;rcases h4 with h4 | ⟨h4,h5⟩
    ·have g35:(((s[k]'hlt).toNat:Int) == 35) = false:=beq_eq_false_iff_ne.2 h4
     clear h4;go_wp2_with fail
     go_roundw
     case rel=>exact ⟨k + 1,false,si + 1,gr,co,wh + 1,ze,mf,xf,by go_num,rfl,rfl,rfl,rfl,rfl,rfl,by omega,⟨by simp only;omega,by simp only;omega,by simp only;omega,by simp only;omega,by simp only;omega,by simp only;omega,by simp only;omega⟩,hx.out,HRB.out,HPB.out,HQ.out⟩
     case measure=>simp [intOf];omega
    ·go_wp2_with fail
     go_roundw
     case rel=>exact ⟨k + 1,false,si + 1,gr,co,wh + 1,ze,mf,xf,by go_num,rfl,rfl,rfl,rfl,rfl,rfl,by omega,⟨by simp only;omega,by simp only;omega,by simp only;omega,by simp only;omega,by simp only;omega,by simp only;omega,by simp only;omega⟩,hx.out,HRB.out,HPB.out,HQ.out⟩
     case measure=>simp [intOf];omega
  ·have hnlt:¬ (k:Int) < (s.size:Int):=by omega
   rw [List.drop_eq_nil_of_le (by rw [bys_len];omega)] at hst;have hRE:=HST.out _ hst;unfold numE at hRE;simp only at hRE;clear hst HST HR;have hcs:((wh = 0 \/ (wh ≠ 0 /\ si = 0) \/ (wh ≠ 0 /\ si ≠ 0 /\ pt = true /\ xf = 0)) /\ Hid (R = none)) \/
     (wh ≠ 0 /\ si ≠ 0 /\ (pt = false \/ (pt = true /\ xf ≠ 0)) /\ Hid (R = some ⟨if 0 < co then si else 0,if 1 < co then gr else if 0 < co then si else 0,ze,mf,xf,decide (64 < wh \/ 64 < xf)⟩)):=by
    by_cases h:wh = 0 \/ si = 0 \/ (pt = true /\ xf = 0)
    ·rw [if_pos h] at hRE
     refine .inl ⟨?_,Hd hRE⟩;by_cases h1:wh = 0
     ·exact .inl h1
     ·by_cases h2:si = 0
      ·exact .inr (.inl ⟨h1,h2⟩)
      ·rcases h with h | h | h
       ·exact absurd h h1
       ·exact absurd h h2
       ·exact .inr (.inr ⟨h1,h2,h.1,h.2⟩)
    ·rw [if_neg h] at hRE
     refine .inr ⟨fun k=>h (.inl k),fun k=>h (.inr (.inl k)),?_,Hd hRE⟩;cases pt
     ·exact .inl rfl
     ·exact .inr ⟨rfl,fun k=>h (.inr (.inr ⟨rfl,k⟩))⟩
   clear hRE;rcases hcs with ⟨h2,hx⟩ | ⟨hw,hsi,h2,hx⟩
   ·rcases h2 with rfl | ⟨hw,rfl⟩ | ⟨hw,hsi,rfl,rfl⟩
    ·go_wp2_with fail
     refine ret_p3 rfl rfl rfl rfl (PB.all HRB.out) rfl ⟨.inl ⟨hx.out,_,_,_,_,_,rfl⟩,Q.puts HQ.out (Nat.le_refl _) _ _ _ _ _ _ _ _ _⟩
    ·have hw0:(wh == 0) = false:=beq_eq_false_iff_ne.2 hw
     go_wp2_with fail
     refine ret_p3 rfl rfl rfl rfl (PB.all HRB.out) rfl ⟨.inl ⟨hx.out,_,_,_,_,_,rfl⟩,Q.puts HQ.out (Nat.le_refl _) _ _ _ _ _ _ _ _ _⟩
    ·have hw0:(wh == 0) = false:=beq_eq_false_iff_ne.2 hw
     have hs0:(si == 0) = false:=beq_eq_false_iff_ne.2 hsi;go_wp2_with fail
     refine ret_p3 rfl rfl rfl rfl (PB.all HRB.out) rfl ⟨.inl ⟨hx.out,_,_,_,_,_,rfl⟩,Q.puts HQ.out (Nat.le_refl _) _ _ _ _ _ _ _ _ _⟩
   ·have hw0:(wh == 0) = false:=beq_eq_false_iff_ne.2 hw
    have hs0:(si == 0) = false:=beq_eq_false_iff_ne.2 hsi;rcases h2 with rfl | ⟨rfl,hxf⟩
    ·skip
     rcases (show (¬ 0 < co /\ ¬ 1 < co) \/ (0 < co /\ ¬ 1 < co) \/ (0 < co /\ 1 < co) from by omega) with ⟨c1,c2⟩ | ⟨c1,c2⟩ | ⟨c1,c2⟩
     ·have hv:(⟨if 0 < co then si else 0,if 1 < co then gr else if 0 < co then si else 0,ze,mf,xf,decide (64 < wh \/ 64 < xf)⟩:Nm) = ⟨0,0,ze,mf,xf,decide (64 < wh \/ 64 < xf)⟩:=by rw [if_neg c1,if_neg c2]
      have hx2:=hx.out;rw [hv] at hx2;have HX:=Hd hx2;clear hx hx2 hv;go_upto_region 42 with fail
      have hp2:PB (wr.setCell ⟨w.heap.size + 1,6,none⟩ (.int .i64 ze)) (w.heap.size + 1) nilV nilV nilV nilV 0 0 ze mf xf:=(HPB.out).set6 _;have hr2:PB (wr.setCell ⟨w.heap.size + 1,6,none⟩ (.int .i64 ze)) w.heap.size nilV nilV nilV nilV 0 0 0 0 0:=(HRB.out).other (ad:=⟨w.heap.size + 1,6,none⟩) (by simp) _;have hq2:Q w (wr.setCell ⟨w.heap.size + 1,6,none⟩ (.int .i64 ze)):=(HQ.out).setCell (ad:=⟨w.heap.size + 1,6,none⟩) (Nat.le_succ _) _;have HP2:=Hd hp2;have HR2:=Hd hr2;have HQ2:=Hd hq2;clear hp2 hr2 hq2 p0 p1 p2 p3 p4 p5 p6 p7 p8 f0 f1 f2 f3 f4 f5 f6 f7 f8 r0 r1 r2 r3 r4 r5 r6 r7 r8 e0 e1 e2 e3 e4 e5 e6 e7 e8 HRB HPB HQ;generalize (wr.setCell ⟨w.heap.size + 1,6,none⟩ (.int .i64 ze)) = wz at *;obtain ⟨p0,p1,p2,p3,p4,p5,p6,p7,p8⟩:=HP2.out.cells;obtain ⟨r0,r1,r2,r3,r4,r5,r6,r7,r8⟩:=HR2.out.cells;obtain ⟨e0,e1,e2,e3,e4,e5,e6,e7,e8⟩:=HR2.out.free;have hlong:(64 < wh /\ Hid (decide (64 < wh \/ 64 < xf) = true)) \/ (¬ 64 < wh /\ 64 < xf /\ Hid (decide (64 < wh \/ 64 < xf) = true)) \/ (¬ 64 < wh /\ ¬ 64 < xf /\ Hid (decide (64 < wh \/ 64 < xf) = false)):=by
       by_cases l1:64 < wh
       ·exact .inl ⟨l1,Hd (decide_eq_true (.inl l1))⟩
       ·by_cases l2:64 < xf
        ·exact .inr (.inl ⟨l1,l2,Hd (decide_eq_true (.inr l2))⟩)
        ·exact .inr (.inr ⟨l1,l2,Hd (decide_eq_false (by omega))⟩)
      rcases hlong with ⟨l1,l3⟩ | ⟨l1,l2,l3⟩ | ⟨l1,l2,l3⟩;all_goals
       go_region
       all_goals
        go_wp2_with fail
        exact ret_p3 rfl rfl rfl rfl (PB.drew (PB.all HR2.out)) rfl ⟨.inr ⟨_,HX.out,by simp only;rw [l3.out];first | done | rfl⟩,Q.drew (Q.puts HQ2.out (Nat.le_refl _) _ _ _ _ _ _ _ _ _)⟩
     ·have hv:(⟨if 0 < co then si else 0,if 1 < co then gr else if 0 < co then si else 0,ze,mf,xf,decide (64 < wh \/ 64 < xf)⟩:Nm) = ⟨si,si,ze,mf,xf,decide (64 < wh \/ 64 < xf)⟩:=by rw [if_pos c1,if_neg c2]
      have hx2:=hx.out;rw [hv] at hx2;have HX:=Hd hx2;clear hx hx2 hv;go_upto_region 42 with fail
      have hp2:PB (((wr.setCell ⟨w.heap.size + 1,6,none⟩ (.int .i64 ze)).setCell ⟨w.heap.size + 1,4,none⟩ (.int .i64 si)).setCell ⟨w.heap.size + 1,5,none⟩ (.int .i64 si)) (w.heap.size + 1) nilV nilV nilV nilV si si ze mf xf:=(((HPB.out).set6 _).set4 _).set5 _;have hr2:PB (((wr.setCell ⟨w.heap.size + 1,6,none⟩ (.int .i64 ze)).setCell ⟨w.heap.size + 1,4,none⟩ (.int .i64 si)).setCell ⟨w.heap.size + 1,5,none⟩ (.int .i64 si)) w.heap.size nilV nilV nilV nilV 0 0 0 0 0:=(((HRB.out).other (ad:=⟨w.heap.size + 1,6,none⟩) (by simp) _).other (ad:=⟨w.heap.size + 1,4,none⟩) (by simp) _).other (ad:=⟨w.heap.size + 1,5,none⟩) (by simp) _;have hq2:Q w (((wr.setCell ⟨w.heap.size + 1,6,none⟩ (.int .i64 ze)).setCell ⟨w.heap.size + 1,4,none⟩ (.int .i64 si)).setCell ⟨w.heap.size + 1,5,none⟩ (.int .i64 si)):=(((HQ.out).setCell (ad:=⟨w.heap.size + 1,6,none⟩) (Nat.le_succ _) _).setCell (ad:=⟨w.heap.size + 1,4,none⟩) (Nat.le_succ _) _).setCell (ad:=⟨w.heap.size + 1,5,none⟩) (Nat.le_succ _) _;have HP2:=Hd hp2;have HR2:=Hd hr2;have HQ2:=Hd hq2;clear hp2 hr2 hq2 p0 p1 p2 p3 p4 p5 p6 p7 p8 f0 f1 f2 f3 f4 f5 f6 f7 f8 r0 r1 r2 r3 r4 r5 r6 r7 r8 e0 e1 e2 e3 e4 e5 e6 e7 e8 HRB HPB HQ;generalize (((wr.setCell ⟨w.heap.size + 1,6,none⟩ (.int .i64 ze)).setCell ⟨w.heap.size + 1,4,none⟩ (.int .i64 si)).setCell ⟨w.heap.size + 1,5,none⟩ (.int .i64 si)) = wz at *;obtain ⟨p0,p1,p2,p3,p4,p5,p6,p7,p8⟩:=HP2.out.cells;obtain ⟨r0,r1,r2,r3,r4,r5,r6,r7,r8⟩:=HR2.out.cells;obtain ⟨e0,e1,e2,e3,e4,e5,e6,e7,e8⟩:=HR2.out.free;have hlong:(64 < wh /\ Hid (decide (64 < wh \/ 64 < xf) = true)) \/ (¬ 64 < wh /\ 64 < xf /\ Hid (decide (64 < wh \/ 64 < xf) = true)) \/ (¬ 64 < wh /\ ¬ 64 < xf /\ Hid (decide (64 < wh \/ 64 < xf) = false)):=by
       by_cases l1:64 < wh
       ·exact .inl ⟨l1,Hd (decide_eq_true (.inl l1))⟩
       ·by_cases l2:64 < xf
        ·exact .inr (.inl ⟨l1,l2,Hd (decide_eq_true (.inr l2))⟩)
        ·exact .inr (.inr ⟨l1,l2,Hd (decide_eq_false (by omega))⟩)
      rcases hlong with ⟨l1,l3⟩ | ⟨l1,l2,l3⟩ | ⟨l1,l2,l3⟩;all_goals
       go_region
       all_goals
        go_wp2_with fail
        exact ret_p3 rfl rfl rfl rfl (PB.drew (PB.all HR2.out)) rfl ⟨.inr ⟨_,HX.out,by simp only;rw [l3.out];first | done | rfl⟩,Q.drew (Q.puts HQ2.out (Nat.le_refl _) _ _ _ _ _ _ _ _ _)⟩
     ·have hv:(⟨if 0 < co then si else 0,if 1 < co then gr else if 0 < co then si else 0,ze,mf,xf,decide (64 < wh \/ 64 < xf)⟩:Nm) = ⟨si,gr,ze,mf,xf,decide (64 < wh \/ 64 < xf)⟩:=by rw [if_pos c1,if_pos c2]
      have hx2:=hx.out;rw [hv] at hx2;have HX:=Hd hx2;clear hx hx2 hv;go_upto_region 42 with fail
      have hp2:PB ((((wr.setCell ⟨w.heap.size + 1,6,none⟩ (.int .i64 ze)).setCell ⟨w.heap.size + 1,4,none⟩ (.int .i64 si)).setCell ⟨w.heap.size + 1,5,none⟩ (.int .i64 si)).setCell ⟨w.heap.size + 1,5,none⟩ (.int .i64 gr)) (w.heap.size + 1) nilV nilV nilV nilV si gr ze mf xf:=((((HPB.out).set6 _).set4 _).set5 _).set5 _;have hr2:PB ((((wr.setCell ⟨w.heap.size + 1,6,none⟩ (.int .i64 ze)).setCell ⟨w.heap.size + 1,4,none⟩ (.int .i64 si)).setCell ⟨w.heap.size + 1,5,none⟩ (.int .i64 si)).setCell ⟨w.heap.size + 1,5,none⟩ (.int .i64 gr)) w.heap.size nilV nilV nilV nilV 0 0 0 0 0:=((((HRB.out).other (ad:=⟨w.heap.size + 1,6,none⟩) (by simp) _).other (ad:=⟨w.heap.size + 1,4,none⟩) (by simp) _).other (ad:=⟨w.heap.size + 1,5,none⟩) (by simp) _).other (ad:=⟨w.heap.size + 1,5,none⟩) (by simp) _;have hq2:Q w ((((wr.setCell ⟨w.heap.size + 1,6,none⟩ (.int .i64 ze)).setCell ⟨w.heap.size + 1,4,none⟩ (.int .i64 si)).setCell ⟨w.heap.size + 1,5,none⟩ (.int .i64 si)).setCell ⟨w.heap.size + 1,5,none⟩ (.int .i64 gr)):=((((HQ.out).setCell (ad:=⟨w.heap.size + 1,6,none⟩) (Nat.le_succ _) _).setCell (ad:=⟨w.heap.size + 1,4,none⟩) (Nat.le_succ _) _).setCell (ad:=⟨w.heap.size + 1,5,none⟩) (Nat.le_succ _) _).setCell (ad:=⟨w.heap.size + 1,5,none⟩) (Nat.le_succ _) _;have HP2:=Hd hp2;have HR2:=Hd hr2;have HQ2:=Hd hq2;clear hp2 hr2 hq2 p0 p1 p2 p3 p4 p5 p6 p7 p8 f0 f1 f2 f3 f4 f5 f6 f7 f8 r0 r1 r2 r3 r4 r5 r6 r7 r8 e0 e1 e2 e3 e4 e5 e6 e7 e8 HRB HPB HQ;generalize ((((wr.setCell ⟨w.heap.size + 1,6,none⟩ (.int .i64 ze)).setCell ⟨w.heap.size + 1,4,none⟩ (.int .i64 si)).setCell ⟨w.heap.size + 1,5,none⟩ (.int .i64 si)).setCell ⟨w.heap.size + 1,5,none⟩ (.int .i64 gr)) = wz at *;obtain ⟨p0,p1,p2,p3,p4,p5,p6,p7,p8⟩:=HP2.out.cells;obtain ⟨r0,r1,r2,r3,r4,r5,r6,r7,r8⟩:=HR2.out.cells;obtain ⟨e0,e1,e2,e3,e4,e5,e6,e7,e8⟩:=HR2.out.free;have hlong:(64 < wh /\ Hid (decide (64 < wh \/ 64 < xf) = true)) \/ (¬ 64 < wh /\ 64 < xf /\ Hid (decide (64 < wh \/ 64 < xf) = true)) \/ (¬ 64 < wh /\ ¬ 64 < xf /\ Hid (decide (64 < wh \/ 64 < xf) = false)):=by
       by_cases l1:64 < wh
       ·exact .inl ⟨l1,Hd (decide_eq_true (.inl l1))⟩
       ·by_cases l2:64 < xf
        ·exact .inr (.inl ⟨l1,l2,Hd (decide_eq_true (.inr l2))⟩)
        ·exact .inr (.inr ⟨l1,l2,Hd (decide_eq_false (by omega))⟩)
      rcases hlong with ⟨l1,l3⟩ | ⟨l1,l2,l3⟩ | ⟨l1,l2,l3⟩;all_goals
       go_region
       all_goals
        go_wp2_with fail
        exact ret_p3 rfl rfl rfl rfl (PB.drew (PB.all HR2.out)) rfl ⟨.inr ⟨_,HX.out,by simp only;rw [l3.out];first | done | rfl⟩,Q.drew (Q.puts HQ2.out (Nat.le_refl _) _ _ _ _ _ _ _ _ _)⟩
    ·have hx0:(xf == 0) = false:=beq_eq_false_iff_ne.2 hxf
     rcases (show (¬ 0 < co /\ ¬ 1 < co) \/ (0 < co /\ ¬ 1 < co) \/ (0 < co /\ 1 < co) from by omega) with ⟨c1,c2⟩ | ⟨c1,c2⟩ | ⟨c1,c2⟩
     ·have hv:(⟨if 0 < co then si else 0,if 1 < co then gr else if 0 < co then si else 0,ze,mf,xf,decide (64 < wh \/ 64 < xf)⟩:Nm) = ⟨0,0,ze,mf,xf,decide (64 < wh \/ 64 < xf)⟩:=by rw [if_neg c1,if_neg c2]
      have hx2:=hx.out;rw [hv] at hx2;have HX:=Hd hx2;clear hx hx2 hv;go_upto_region 42 with fail
      have hp2:PB (wr.setCell ⟨w.heap.size + 1,6,none⟩ (.int .i64 ze)) (w.heap.size + 1) nilV nilV nilV nilV 0 0 ze mf xf:=(HPB.out).set6 _;have hr2:PB (wr.setCell ⟨w.heap.size + 1,6,none⟩ (.int .i64 ze)) w.heap.size nilV nilV nilV nilV 0 0 0 0 0:=(HRB.out).other (ad:=⟨w.heap.size + 1,6,none⟩) (by simp) _;have hq2:Q w (wr.setCell ⟨w.heap.size + 1,6,none⟩ (.int .i64 ze)):=(HQ.out).setCell (ad:=⟨w.heap.size + 1,6,none⟩) (Nat.le_succ _) _;have HP2:=Hd hp2;have HR2:=Hd hr2;have HQ2:=Hd hq2;clear hp2 hr2 hq2 p0 p1 p2 p3 p4 p5 p6 p7 p8 f0 f1 f2 f3 f4 f5 f6 f7 f8 r0 r1 r2 r3 r4 r5 r6 r7 r8 e0 e1 e2 e3 e4 e5 e6 e7 e8 HRB HPB HQ;generalize (wr.setCell ⟨w.heap.size + 1,6,none⟩ (.int .i64 ze)) = wz at *;obtain ⟨p0,p1,p2,p3,p4,p5,p6,p7,p8⟩:=HP2.out.cells;obtain ⟨r0,r1,r2,r3,r4,r5,r6,r7,r8⟩:=HR2.out.cells;obtain ⟨e0,e1,e2,e3,e4,e5,e6,e7,e8⟩:=HR2.out.free;have hlong:(64 < wh /\ Hid (decide (64 < wh \/ 64 < xf) = true)) \/ (¬ 64 < wh /\ 64 < xf /\ Hid (decide (64 < wh \/ 64 < xf) = true)) \/ (¬ 64 < wh /\ ¬ 64 < xf /\ Hid (decide (64 < wh \/ 64 < xf) = false)):=by
       by_cases l1:64 < wh
       ·exact .inl ⟨l1,Hd (decide_eq_true (.inl l1))⟩
       ·by_cases l2:64 < xf
        ·exact .inr (.inl ⟨l1,l2,Hd (decide_eq_true (.inr l2))⟩)
        ·exact .inr (.inr ⟨l1,l2,Hd (decide_eq_false (by omega))⟩)
      rcases hlong with ⟨l1,l3⟩ | ⟨l1,l2,l3⟩ | ⟨l1,l2,l3⟩;all_goals
       go_region
       all_goals
        go_wp2_with fail
        exact ret_p3 rfl rfl rfl rfl (PB.drew (PB.all HR2.out)) rfl ⟨.inr ⟨_,HX.out,by simp only;rw [l3.out];first | done | rfl⟩,Q.drew (Q.puts HQ2.out (Nat.le_refl _) _ _ _ _ _ _ _ _ _)⟩
     ·have hv:(⟨if 0 < co then si else 0,if 1 < co then gr else if 0 < co then si else 0,ze,mf,xf,decide (64 < wh \/ 64 < xf)⟩:Nm) = ⟨si,si,ze,mf,xf,decide (64 < wh \/ 64 < xf)⟩:=by rw [if_pos c1,if_neg c2]
      have hx2:=hx.out;rw [hv] at hx2;have HX:=Hd hx2;clear hx hx2 hv;go_upto_region 42 with fail
      have hp2:PB (((wr.setCell ⟨w.heap.size + 1,6,none⟩ (.int .i64 ze)).setCell ⟨w.heap.size + 1,4,none⟩ (.int .i64 si)).setCell ⟨w.heap.size + 1,5,none⟩ (.int .i64 si)) (w.heap.size + 1) nilV nilV nilV nilV si si ze mf xf:=(((HPB.out).set6 _).set4 _).set5 _;have hr2:PB (((wr.setCell ⟨w.heap.size + 1,6,none⟩ (.int .i64 ze)).setCell ⟨w.heap.size + 1,4,none⟩ (.int .i64 si)).setCell ⟨w.heap.size + 1,5,none⟩ (.int .i64 si)) w.heap.size nilV nilV nilV nilV 0 0 0 0 0:=(((HRB.out).other (ad:=⟨w.heap.size + 1,6,none⟩) (by simp) _).other (ad:=⟨w.heap.size + 1,4,none⟩) (by simp) _).other (ad:=⟨w.heap.size + 1,5,none⟩) (by simp) _;have hq2:Q w (((wr.setCell ⟨w.heap.size + 1,6,none⟩ (.int .i64 ze)).setCell ⟨w.heap.size + 1,4,none⟩ (.int .i64 si)).setCell ⟨w.heap.size + 1,5,none⟩ (.int .i64 si)):=(((HQ.out).setCell (ad:=⟨w.heap.size + 1,6,none⟩) (Nat.le_succ _) _).setCell (ad:=⟨w.heap.size + 1,4,none⟩) (Nat.le_succ _) _).setCell (ad:=⟨w.heap.size + 1,5,none⟩) (Nat.le_succ _) _;have HP2:=Hd hp2;have HR2:=Hd hr2;have HQ2:=Hd hq2;clear hp2 hr2 hq2 p0 p1 p2 p3 p4 p5 p6 p7 p8 f0 f1 f2 f3 f4 f5 f6 f7 f8 r0 r1 r2 r3 r4 r5 r6 r7 r8 e0 e1 e2 e3 e4 e5 e6 e7 e8 HRB HPB HQ;generalize (((wr.setCell ⟨w.heap.size + 1,6,none⟩ (.int .i64 ze)).setCell ⟨w.heap.size + 1,4,none⟩ (.int .i64 si)).setCell ⟨w.heap.size + 1,5,none⟩ (.int .i64 si)) = wz at *;obtain ⟨p0,p1,p2,p3,p4,p5,p6,p7,p8⟩:=HP2.out.cells;obtain ⟨r0,r1,r2,r3,r4,r5,r6,r7,r8⟩:=HR2.out.cells;obtain ⟨e0,e1,e2,e3,e4,e5,e6,e7,e8⟩:=HR2.out.free;have hlong:(64 < wh /\ Hid (decide (64 < wh \/ 64 < xf) = true)) \/ (¬ 64 < wh /\ 64 < xf /\ Hid (decide (64 < wh \/ 64 < xf) = true)) \/ (¬ 64 < wh /\ ¬ 64 < xf /\ Hid (decide (64 < wh \/ 64 < xf) = false)):=by
       by_cases l1:64 < wh
       ·exact .inl ⟨l1,Hd (decide_eq_true (.inl l1))⟩
       ·by_cases l2:64 < xf
        ·exact .inr (.inl ⟨l1,l2,Hd (decide_eq_true (.inr l2))⟩)
        ·exact .inr (.inr ⟨l1,l2,Hd (decide_eq_false (by omega))⟩)
      rcases hlong with ⟨l1,l3⟩ | ⟨l1,l2,l3⟩ | ⟨l1,l2,l3⟩;all_goals
       go_region
       all_goals
        go_wp2_with fail
        exact ret_p3 rfl rfl rfl rfl (PB.drew (PB.all HR2.out)) rfl ⟨.inr ⟨_,HX.out,by simp only;rw [l3.out];first | done | rfl⟩,Q.drew (Q.puts HQ2.out (Nat.le_refl _) _ _ _ _ _ _ _ _ _)⟩
     ·have hv:(⟨if 0 < co then si else 0,if 1 < co then gr else if 0 < co then si else 0,ze,mf,xf,decide (64 < wh \/ 64 < xf)⟩:Nm) = ⟨si,gr,ze,mf,xf,decide (64 < wh \/ 64 < xf)⟩:=by rw [if_pos c1,if_pos c2]
      have hx2:=hx.out;rw [hv] at hx2;have HX:=Hd hx2;clear hx hx2 hv;go_upto_region 42 with fail
      have hp2:PB ((((wr.setCell ⟨w.heap.size + 1,6,none⟩ (.int .i64 ze)).setCell ⟨w.heap.size + 1,4,none⟩ (.int .i64 si)).setCell ⟨w.heap.size + 1,5,none⟩ (.int .i64 si)).setCell ⟨w.heap.size + 1,5,none⟩ (.int .i64 gr)) (w.heap.size + 1) nilV nilV nilV nilV si gr ze mf xf:=((((HPB.out).set6 _).set4 _).set5 _).set5 _;have hr2:PB ((((wr.setCell ⟨w.heap.size + 1,6,none⟩ (.int .i64 ze)).setCell ⟨w.heap.size + 1,4,none⟩ (.int .i64 si)).setCell ⟨w.heap.size + 1,5,none⟩ (.int .i64 si)).setCell ⟨w.heap.size + 1,5,none⟩ (.int .i64 gr)) w.heap.size nilV nilV nilV nilV 0 0 0 0 0:=((((HRB.out).other (ad:=⟨w.heap.size + 1,6,none⟩) (by simp) _).other (ad:=⟨w.heap.size + 1,4,none⟩) (by simp) _).other (ad:=⟨w.heap.size + 1,5,none⟩) (by simp) _).other (ad:=⟨w.heap.size + 1,5,none⟩) (by simp) _;have hq2:Q w ((((wr.setCell ⟨w.heap.size + 1,6,none⟩ (.int .i64 ze)).setCell ⟨w.heap.size + 1,4,none⟩ (.int .i64 si)).setCell ⟨w.heap.size + 1,5,none⟩ (.int .i64 si)).setCell ⟨w.heap.size + 1,5,none⟩ (.int .i64 gr)):=((((HQ.out).setCell (ad:=⟨w.heap.size + 1,6,none⟩) (Nat.le_succ _) _).setCell (ad:=⟨w.heap.size + 1,4,none⟩) (Nat.le_succ _) _).setCell (ad:=⟨w.heap.size + 1,5,none⟩) (Nat.le_succ _) _).setCell (ad:=⟨w.heap.size + 1,5,none⟩) (Nat.le_succ _) _;have HP2:=Hd hp2;have HR2:=Hd hr2;have HQ2:=Hd hq2;clear hp2 hr2 hq2 p0 p1 p2 p3 p4 p5 p6 p7 p8 f0 f1 f2 f3 f4 f5 f6 f7 f8 r0 r1 r2 r3 r4 r5 r6 r7 r8 e0 e1 e2 e3 e4 e5 e6 e7 e8 HRB HPB HQ;generalize ((((wr.setCell ⟨w.heap.size + 1,6,none⟩ (.int .i64 ze)).setCell ⟨w.heap.size + 1,4,none⟩ (.int .i64 si)).setCell ⟨w.heap.size + 1,5,none⟩ (.int .i64 si)).setCell ⟨w.heap.size + 1,5,none⟩ (.int .i64 gr)) = wz at *;obtain ⟨p0,p1,p2,p3,p4,p5,p6,p7,p8⟩:=HP2.out.cells;obtain ⟨r0,r1,r2,r3,r4,r5,r6,r7,r8⟩:=HR2.out.cells;obtain ⟨e0,e1,e2,e3,e4,e5,e6,e7,e8⟩:=HR2.out.free;have hlong:(64 < wh /\ Hid (decide (64 < wh \/ 64 < xf) = true)) \/ (¬ 64 < wh /\ 64 < xf /\ Hid (decide (64 < wh \/ 64 < xf) = true)) \/ (¬ 64 < wh /\ ¬ 64 < xf /\ Hid (decide (64 < wh \/ 64 < xf) = false)):=by
       by_cases l1:64 < wh
       ·exact .inl ⟨l1,Hd (decide_eq_true (.inl l1))⟩
       ·by_cases l2:64 < xf
        ·exact .inr (.inl ⟨l1,l2,Hd (decide_eq_true (.inr l2))⟩)
        ·exact .inr (.inr ⟨l1,l2,Hd (decide_eq_false (by omega))⟩)
      rcases hlong with ⟨l1,l3⟩ | ⟨l1,l2,l3⟩ | ⟨l1,l2,l3⟩;all_goals
       go_region
       all_goals
        go_wp2_with fail
        exact ret_p3 rfl rfl rfl rfl (PB.drew (PB.all HR2.out)) rfl ⟨.inr ⟨_,HX.out,by simp only;rw [l3.out];first | done | rfl⟩,Q.drew (Q.puts HQ2.out (Nat.le_refl _) _ _ _ _ _ _ _ _ _)⟩
end Pr
end
end Go.Proofs.YteggfkbnnmpcjaaGreatDoor
