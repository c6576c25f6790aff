/- A text's pattern, as the program reads it. (and more) -/
import Derived.Test.YtdjhkbholijnmaaGreatDoorR17
import Derived.Test.YtdjhkbholijnmaaGreatDoorR19
set_option linter.all false
set_option maxRecDepth 100000
set_option maxHeartbeats 8000000
namespace Go.Proofs.YtdjhkbholijnmaaGreatDoor
section
open Go.RowKit
namespace Pg
open Pt Um
theorem New.past0 {w:World} {B B':Nat} {v:Value} {l:List Pc.E} (h:Pc.New w B v l) (hB:B' <= B):Pc.New w B' v l:=h.mono hB
theorem one_of {α:Type} {l:List α} {x:α} (h:1 = l.length) (h0:l[0]? = some x):l = [x]:=by
 match l,h with
 | [a],_=>simp at h0;rw [h0]
theorem two_of {α:Type} {l:List α} {x y:α} (h:2 = l.length) (h0:l[0]? = some x) (h1:l[1]? = some y):l = [x,y]:=by
 match l,h with
 | [a,b],_=>simp at h0 h1;rw [h0,h1]
structure HalfOk (L:List (Int × Int)) (nb:Nb):Prop where
 kinds:∀ x ∈ L,x.1 <= 4
 chars:∀ x ∈ L,encL x.2 ≠ []
 has:ah ntN L < L.length
 rest:(L.drop (ah ntN L + ah isN (L.drop (ah ntN L)))).any isN = false
 num:prN (((L.drop (ah ntN L)).take (ah isN (L.drop (ah ntN L)))).flatMap fun x=>encL x.2) = some nb
 small:ah isN (L.drop (ah ntN L)) <= 250
def prP (L:List (Int × Int)):List Pc.E:=joinT [] (L.take (ah ntN L))
def suP (L:List (Int × Int)):List Pc.E:=joinT [] (L.drop (ah ntN L + ah isN (L.drop (ah ntN L))))
theorem joinT_le (l:List (Int × Int)):(joinT [] l).length <= l.length:=by
 have:=joinT_len l []
 rw [if_pos rfl] at this
 exact this
theorem prP_le (L:List (Int × Int)):(prP L).length <= L.length:=Nat.le_trans (joinT_le _) (List.length_take_le' _ _)
theorem suP_le (L:List (Int × Int)):(suP L).length <= L.length:=Nat.le_trans (joinT_le _) (by rw [List.length_drop];omega)
def Nb.long (n:Nb):Prop:=64 < n.xi \/ 64 < n.xf
def patOf:List (List (Int × Int) × Nb) -> Pat
 | []=>pat0
 | [x]=>⟨prP x.1,suP x.1,(3,[]) :: prP x.1,suP x.1,x.2.p,x.2.s,x.2.mi,x.2.mf,x.2.xf⟩
 | x :: y :: _=>⟨prP x.1,suP x.1,prP y.1,suP y.1,x.2.p,x.2.s,x.2.mi,x.2.mf,x.2.xf⟩
theorem infoPt:(Tryz.prog.info? 120).map (·.size) = some 9:=by kernel_rfl
theorem read_form (s:ByteArray) (w:World) (hs:s.size <= 100000) (hok:okL s.data.toList = true) (hno:tokQ false false (allL s.data.toList) = none) :
  Calls Tryz.prog 87 #[.string s] w fun e w'=>e = .panicked form /\ Q w w':=by
 have hS:=fun w=>signs_any s w (by omega) hok
 rw [hno] at hS
 have HS:=Hd hS
 clear hS hno hok
 go_enter Tryz.func87,Tryz.ntmps87
 go_wp2_with fail
 refine (HS.out _).mono ?_
 rintro e w1 ⟨hq1,(⟨v,l',he,_⟩ | ⟨_,rfl⟩)⟩
 ·cases he
 ·go_wp2_with fail
  exact ⟨rfl,rfl,((Q.refl w).alloc _).trans hq1⟩
theorem PTlen {LL:List (List (Int × Int) × Nb)} {l:List (Int × Int)} (h:splitD l = LL.map (·.1)):∀ x ∈ LL,x.1.length <= l.length:=by
 have key:∀ l:List (Int × Int),∀ y ∈ splitD l,y.length <= l.length:=by
  intro l
  induction l with
  | nil=>intro y hy;simp [splitD] at hy;simp [hy]
  | cons a r ih =>
   intro y hy
   unfold splitD at hy
   split at hy
   ·rcases List.mem_cons.1 hy with rfl | hy
    ·simp
    ·have:=ih y hy;simp only [List.length_cons];omega
   ·split at hy
    ·rename_i he
     simp at hy;subst hy;simp
    ·rename_i c d he
     rcases List.mem_cons.1 hy with rfl | hy
     ·have:=ih c (by rw [he];exact List.mem_cons_self);simp only [List.length_cons];omega
     ·have:=ih y (by rw [he];exact List.mem_cons_of_mem _ hy);simp only [List.length_cons];omega
 intro x hx
 exact key l x.1 (by rw [h];exact List.mem_map_of_mem hx)
theorem read_any (s:ByteArray) (w:World) (hs:s.size <= 100000) (hok:okL s.data.toList = true) (l:List (Int × Int)) (htk:tokQ false false (allL s.data.toList) = some l)
  (LL:List (List (Int × Int) × Nb)) (hLL:splitD l = LL.map (·.1)) (hH:∀ x ∈ LL,HalfOk x.1 x.2) (hl1:1 <= LL.length) (hl2:LL.length <= 2) :
  Calls Tryz.prog 87 #[.string s] w fun e w'=>Q w w' /\ (((∃ x ∈ LL,x.2.long) /\ e = .panicked range) \/ ((∀ x ∈ LL,¬ x.2.long) /\ ∃ v,e = .returned v /\ PV w' w.heap.size v (patOf LL))):=by
 have hS:=fun w=>signs_any s w (by omega) hok
 rw [htk] at hS
 have HS:=Hd hS
 have HH:=Hd hH
 have HLL:=Hd hLL
 have HPL:=Hd (PTlen hLL)
 obtain ⟨n,hn⟩:∃ n,n = LL.length:=⟨_,rfl⟩
 rw [<- hn] at hl1 hl2
 have HN:=Hd hn
 clear hS htk hok hH hLL hn
 have HB0:=Hd (Bk.new w 120 [.slice none 0 0,.slice none 0 0,.slice none 0 0,.slice none 0 0,.int .i64 0,.int .i64 0,.int .i64 0,.int .i64 0,.int .i64 0])
 go_enter Tryz.func87,Tryz.ntmps87
 go_wp2_with fail
 refine (HS.out _).mono ?_
 rintro e w1 ⟨hq1,(⟨v,l',he,rfl,ho,hle⟩ | ⟨hno,_⟩)⟩
 case inr=>cases hno
 obtain rfl:l = l':=Option.some.inj he
 have HQ1:=Hd (((Q.refl w).alloc (.cells #[.slice none 0 0,.slice none 0 0,.slice none 0 0,.slice none 0 0,.int .i64 0,.int .i64 0,.int .i64 0,.int .i64 0,.int .i64 0] 120)).trans hq1)
 have HB1:=Hd (HB0.out.q hq1)
 clear he hq1 HB0
 have hol:l.length <= 100000:=by omega
 have HL:=Hd ho.lst
 have hha:=halves_any v l w1 HL.out (by omega)
 obtain ⟨va,vc,rfl⟩:=ho.lst.shape
 clear ho
 go_wp2_with fail
 refine hha.mono ?_
 rintro e w2 ⟨u,ls,rfl,hg,hsl,hmz,hq2⟩
 have hls:ls.length = n:=by
  have h1:=congrArg List.length hmz
  rw [HLL.out,List.length_map,List.length_map] at h1
  rw [h1,HN.out]
 have HG:=Hd hg.lst
 have HSL:=Hd (show ∀ (k:Nat) (x:List (Int × Int) × Nb),LL[k]? = some x -> ∃ s:Sl,ls[k]? = some s /\ s.zs = x.1 /\ Sl.ok w1 s from fun k x hx=>by
  have h1:(ls.map Sl.zs)[k]? = some x.1:=by rw [hmz,HLL.out,List.getElem?_map,hx];rfl
  rw [List.getElem?_map] at h1
  obtain ⟨s,hs,hz⟩:=Option.map_eq_some_iff.1 h1
  exact ⟨s,hs,hz,hsl s (List.mem_of_getElem? hs)⟩)
 have HLN:=Hd hls
 obtain ⟨ua,uc,rfl,hu1,hu2⟩:=hg.lst.form0 hls
 have HQ2:=Hd (HQ1.out.trans hq2)
 have HQ12:=Hd hq2
 have HB2:=Hd (HB1.out.q hq2)
 have hn2:(n:Int) <= 2:=by omega
 clear hg hsl hmz hls hq2 hha HQ1 HB1 HL
 go_wp2_with fail
 refine (need_yes _).mono ?_
 rintro e w3 ⟨rfl,rfl⟩
 go_wp2_with fail
 go_loopw [4,21] (fun uu i wr=>∃ (k:Nat) (hs:List Hm),i = .int .i64 k /\ k <= n /\ OwnH wr w2.heap.size uu hs /\ hs.length = k /\ Hid (∀ (j:Nat) (h:Hm) (x:List (Int × Int) × Nb),hs[j]? = some h -> LL[j]? = some x -> h.P = prP x.1 /\ h.S = suP x.1 /\ h.nb = x.2) /\ Hid (∀ h ∈ hs,h.ok wr w2.heap.size /\ h.far uu) /\ Q w2 wr) (fun _ i _=>n - (intOf i).toNat)
 case atStart=>exact ⟨0,[],rfl,by omega,OwnH.nil _ _,rfl,Hd (fun j h x hj=>by simp at hj),Hd (fun h hh=>absurd hh List.not_mem_nil),Q.refl _⟩
 case round =>
  obtain ⟨k,hs',rfl,hk,ho,hsk,HC,HO,hq⟩:=hrel
  by_cases hlt:k < n
  ·have hlti:(k:Int) < (n:Int):=by omega
   obtain ⟨x,hx⟩:∃ x,LL[k]? = some x:=⟨_,List.getElem?_eq_getElem (by have:=HN.out;omega)⟩
   obtain ⟨sl,hsl,hsz,hso⟩:=HSL.out k x hx
   obtain ⟨g,off,cap,hvv,hg,_,_,c1⟩:=(HG.out.q hq).cellOf HLN.out hsl
   cases hvv
   have hx0:=HH.out x (List.mem_of_getElem? hx)
   have hxl:=HPL.out x (List.mem_of_getElem? hx)
   have hha:=halfOf_any sl.v x.1 wr (by rw [<- hsz];exact (hso.1.q HQ12.out).q hq) (by omega) hx0.kinds hx0.chars hx0.has hx0.rest x.2 hx0.num hx0.small
   change Calls Tryz.prog 147 _ wr fun e w'=>HalfV w' wr.heap.size e (prP x.1) (suP x.1) x.2 /\ Q wr w' at hha
   have HX:=Hd hx
   unfold Sl.v at c1 hha
   obtain ⟨sa0,sn0,sc0,szs⟩:=sl
   simp only at c1 hha
   clear hx hx0 hsz hso hsl
   go_wp2_with fail
   refine hha.mono ?_
   rintro e w4 ⟨⟨pa,pc,sa,sc,rfl,hP,hS⟩,hq4⟩
   obtain ⟨h,hh⟩:∃ h:Hm,h = ⟨pa,pc,sa,sc,prP x.1,suP x.1,x.2⟩:=⟨_,rfl⟩
   have hhok:h.ok w4 wr.heap.size:=by rw [hh];exact ⟨hP,hS⟩
   have hhc:h.cells = [.slice pa (prP x.1).length pc,.slice sa (suP x.1).length sc,.int .i64 x.2.p,.int .i64 x.2.s,.int .i64 x.2.mi,.int .i64 x.2.xi,.int .i64 x.2.mf,.int .i64 x.2.xf]:=by rw [hh];rfl
   have hhi:h.P = prP x.1 /\ h.S = suP x.1 /\ h.nb = x.2:=by rw [hh];exact ⟨rfl,rfl,rfl⟩
   have hfar:h.far u4:=Hm.far.new ho hhok
   have ho4:=ho.q hq4
   have hq24:=hq.trans hq4
   have HHI:=Hd hhi
   have HHOK:=Hd (show h.ok w4 w2.heap.size from ⟨hhok.1.mono hq.le,hhok.2.mono hq.le⟩)
   have HFAR:=Hd hfar
   have HOLD:=Hd (show ∀ h ∈ hs',h.ok w4 w2.heap.size /\ h.far u4 from fun h hh=>⟨(HO.out h hh).1.q hq4,(HO.out h hh).2⟩)
   have hqs4:=hq24.le
   clear hh hhok hhi hfar hP hS hha
   generalize (prP x.1).length = l1 at *
   generalize (suP x.1).length = l2 at *
   go_wp2_with (at_builtin;rw [show (#[.slice pa l1 pc,.slice sa l2 sc,.int .i64 x.2.p,.int .i64 x.2.s,.int .i64 x.2.mi,.int .i64 x.2.xi,.int .i64 x.2.mf,.int .i64 x.2.xf]:Array Value) = h.cells.toArray by rw [hhc]];refine pushH ho4 rfl _ _ rfl h (by rfl) (by rfl) (by omega) hqs4 ?_)
   intro v' w5 ho5 hg5 hat5
   have hq5:=hq24.grown hg5 (fun j hj=>(ho4.lt j hj).1)
   have HNEW:=Hd (show ∀ h2 ∈ hs' ++ [h],h2.ok w5 w2.heap.size /\ h2.far v' from fun h2 hh2=>by
    have:h2.ok w4 w2.heap.size /\ h2.far u4:=by
     rcases List.mem_append.1 hh2 with hh2 | hh2
     ·exact HOLD.out h2 hh2
     ·rw [List.mem_singleton.1 hh2];exact ⟨HHOK.out,HFAR.out⟩
    exact ⟨this.1.grown hg5 this.2,this.2.push this.1 hat5⟩)
   have HC5:=Hd (show ∀ (j:Nat) (h2:Hm) (x:List (Int × Int) × Nb),(hs' ++ [h])[j]? = some h2 -> LL[j]? = some x -> h2.P = prP x.1 /\ h2.S = suP x.1 /\ h2.nb = x.2 from fun j h2 y hj hy=>by
    by_cases hjk:j < k
    ·rw [List.getElem?_append_left (by omega)] at hj
     exact HC.out j h2 y hj hy
    ·rw [List.getElem?_append_right (by omega)] at hj
     have hj0:j - hs'.length = 0:=by
      have:=(List.getElem?_eq_some_iff.1 hj).1
      simp at this;omega
     rw [hj0] at hj
     have hjk2:j = k:=by omega
     rw [hjk2,HX.out] at hy
     cases hy
     simp at hj
     subst hj
     exact HHI.out)
   go_wp2_with fail
   exact ⟨⟨k + 1,hs' ++ [h],by go_num,by omega,ho5,by simp [hsk],HC5,HNEW,hq5⟩,by simp [intOf];omega⟩
  ·have hnlt:¬ (k:Int) < (n:Int):=by omega
   have hkn:n = k:=by omega
   subst hkn
   obtain ⟨wa,hwa⟩:∃ wa,wa = wr:=⟨_,rfl⟩
   subst hwa
   obtain ⟨ha,hc,rfl,hh1,hh2⟩:=ho.shape hsk
   have HOH:=Hd ho
   have HSK:=Hd hsk
   have HQR:=Hd (HQ2.out.trans hq)
   have HQ2R:=Hd hq
   have HBR:=Hd (HB2.out.q hq)
   clear ho hsk hq
   go_wp2_with fail
   go_loopw [33] (fun i wx=>∃ k:Nat,i = .int .i64 k /\ k <= n /\ Hid (∀ (j:Nat) (x:List (Int × Int) × Nb),j < k -> LL[j]? = some x -> ¬ x.2.long) /\ Q wa wx) (fun i _=>n - (intOf i).toNat)
   case atStart=>exact ⟨0,rfl,by omega,Hd (fun j x hj=>absurd hj (Nat.not_lt_zero j)),Q.refl _⟩
   case round =>
    obtain ⟨k,rfl,hk2,HK,hq⟩:=hrel
    by_cases hlt2:k < n
    ·have hlti:(k:Int) < (n:Int):=by omega
     obtain ⟨x,hx⟩:∃ x,LL[k]? = some x:=⟨_,List.getElem?_eq_getElem (by have:=HN.out;omega)⟩
     obtain ⟨h,hh⟩:∃ h,hs'[k]? = some h:=⟨_,List.getElem?_eq_getElem (by have:=HSK.out;omega)⟩
     obtain ⟨g,cap,hvv,_,hg,_,_,hd⟩:=HOH.out.cellOf HSK.out hh
     cases hvv
     have hd2:∀ j u,h.cells[j]? = some u -> wr.cell? ⟨g,k * 8 + j,none⟩ = some u:=fun j u hj=>(World.cell?_of_block (w:=wa) (hq.block hg)).trans (hd j u hj)
     have hnb:=(HC.out k h x hh hx).2.2
     have HX:=Hd hx
     have c0:wr.cell? ⟨g,k * 8,none⟩ = some (.slice h.pa h.P.length h.pc):=hd2 0 _ rfl
     have c1:wr.cell? ⟨g,k * 8 + 1,none⟩ = some (.slice h.sa h.S.length h.sc):=hd2 1 _ rfl
     have c2:wr.cell? ⟨g,k * 8 + 2,none⟩ = some (.int .i64 h.nb.p):=hd2 2 _ rfl
     have c3:wr.cell? ⟨g,k * 8 + 3,none⟩ = some (.int .i64 h.nb.s):=hd2 3 _ rfl
     have c4:wr.cell? ⟨g,k * 8 + 4,none⟩ = some (.int .i64 h.nb.mi):=hd2 4 _ rfl
     have c5:wr.cell? ⟨g,k * 8 + 5,none⟩ = some (.int .i64 h.nb.xi):=hd2 5 _ rfl
     have c6:wr.cell? ⟨g,k * 8 + 6,none⟩ = some (.int .i64 h.nb.mf):=hd2 6 _ rfl
     have c7:wr.cell? ⟨g,k * 8 + 7,none⟩ = some (.int .i64 h.nb.xf):=hd2 7 _ rfl
     rw [hnb] at c2 c3 c4 c5 c6 c7
     clear hd hd2 hx hh hnb
     generalize h.P.length = l1 at *
     generalize h.S.length = l2 at *
     go_wp2_with fail
     by_cases hlong:x.2.long
     ·refine (keep_bad _ _ _ _ _ _ _ hlong).mono ?_
      rintro e w6 ⟨rfl,hq6⟩
      go_wp2_with fail
      exact ⟨rfl,HQR.out.trans ((hq.alloc _).trans hq6),.inl ⟨⟨x,List.mem_of_getElem? HX.out,hlong⟩,rfl⟩⟩
     ·refine (keep_ok _ _ _ _ _ _ _ (by unfold Nb.long at hlong;omega) (by unfold Nb.long at hlong;omega)).mono ?_
      rintro e w6 ⟨rfl,hq6⟩
      have HL:=Hd hlong
      clear hlong
      go_wp2_with fail
      exact ⟨⟨k + 1,by go_num,by omega,Hd (fun j y hj hy=>by
       by_cases hjk:j < k
       ·exact HK.out j y hjk hy
       ·have:j = k:=by omega
        rw [this,HX.out] at hy
        cases hy;exact HL.out),(hq.alloc _).trans hq6⟩,by simp [intOf];omega⟩
    ·have hnlt2:¬ (k:Int) < (n:Int):=by omega
     have HNL:=Hd (show ∀ x ∈ LL,¬ x.2.long from fun x hx=>by
      obtain ⟨j,hj⟩:=List.getElem?_of_mem hx
      have:=(List.getElem?_eq_some_iff.1 hj).1
      exact HK.out j x (by have:=HN.out;omega) hj)
     have hkn:n = k:=by omega
     subst hkn
     have wrap0:IntKind.i64.wrap 0 = 0:=by decide
     have wrap1:IntKind.i64.wrap 1 = 1:=by decide
     go_wp2_with fail
     rcases (show n = 1 \/ n = 2 by omega) with hn1 | hn1
     ·obtain rfl:=hn1
      obtain ⟨x,hx⟩:∃ x,LL[0]? = some x:=⟨_,List.getElem?_eq_getElem (by have:=HN.out;omega)⟩
      obtain ⟨h,hh⟩:∃ h,hs'[0]? = some h:=⟨_,List.getElem?_eq_getElem (by have:=HSK.out;omega)⟩
      have hcc0:=HC.out 0 h x hh hx
      have hok0:=(HO.out h (List.mem_of_getElem? hh)).1
      obtain ⟨g0,cap0,hvv,_,hg0,_,_,hd0⟩:=HOH.out.cellOf HSK.out hh
      cases hvv
      obtain ⟨pa0,pc0,sa0,sc0,P0,S0,nb0⟩:=h
      simp only at hcc0
      obtain ⟨rfl,rfl,rfl⟩:=hcc0
      have HXX0:=Hd hx
      have HP0:=Hd (show Pc.New wr w2.heap.size (.slice pa0 (prP x.1).length pc0) (prP x.1) from hok0.1.q hq)
      have HS0:=Hd (show Pc.New wr w2.heap.size (.slice sa0 (suP x.1).length sc0) (suP x.1) from hok0.2.q hq)
      have hd0:=fun (u:World) (hu:Q wr u) (j:Nat) (yv:Value) (hj:(Hm.cells ⟨pa0,pc0,sa0,sc0,prP x.1,suP x.1,x.2⟩)[j]? = some yv)=>(World.cell?_of_block (w:=wa) ((Q.trans hq hu).block hg0)).trans (hd0 j yv hj)
      have hpl0:=Nat.le_trans (prP_le x.1) (HPL.out x (List.mem_of_getElem? hx))
      have hsl0:=Nat.le_trans (suP_le x.1) (HPL.out x (List.mem_of_getElem? hx))
      have HPl0:=Hd hpl0
      have HSl0:=Hd hsl0
      obtain ⟨L0,hL0⟩:∃ L,(prP x.1).length = L:=⟨_,rfl⟩
      obtain ⟨M0,hM0⟩:∃ L,(suP x.1).length = L:=⟨_,rfl⟩
      have CE0_0:=Hd (show ∀ u,Q wr u -> u.cell? ⟨g0,0,none⟩ = some (.slice pa0 L0 pc0) from fun u hu=>hd0 u hu 0 _ (by rw [<- hL0];rfl))
      have CE0_1:=Hd (show ∀ u,Q wr u -> u.cell? ⟨g0,1,none⟩ = some (.slice sa0 M0 sc0) from fun u hu=>hd0 u hu 1 _ (by rw [<- hM0];rfl))
      have CE0_2:=Hd (show ∀ u,Q wr u -> u.cell? ⟨g0,2,none⟩ = some (.int .i64 x.2.p) from fun u hu=>hd0 u hu 2 _ (by rfl))
      have CE0_3:=Hd (show ∀ u,Q wr u -> u.cell? ⟨g0,3,none⟩ = some (.int .i64 x.2.s) from fun u hu=>hd0 u hu 3 _ (by rfl))
      have CE0_4:=Hd (show ∀ u,Q wr u -> u.cell? ⟨g0,4,none⟩ = some (.int .i64 x.2.mi) from fun u hu=>hd0 u hu 4 _ (by rfl))
      have CE0_5:=Hd (show ∀ u,Q wr u -> u.cell? ⟨g0,5,none⟩ = some (.int .i64 x.2.xi) from fun u hu=>hd0 u hu 5 _ (by rfl))
      have CE0_6:=Hd (show ∀ u,Q wr u -> u.cell? ⟨g0,6,none⟩ = some (.int .i64 x.2.mf) from fun u hu=>hd0 u hu 6 _ (by rfl))
      have CE0_7:=Hd (show ∀ u,Q wr u -> u.cell? ⟨g0,7,none⟩ = some (.int .i64 x.2.xf) from fun u hu=>hd0 u hu 7 _ (by rfl))
      rw [hL0] at HP0 HPl0
      rw [hM0] at HS0 HSl0
      have HL0:=Hd hL0
      have HM0:=Hd hM0
      clear hx hh hok0 hd0 hg0 hpl0 hsl0 hL0 hM0
      have HLL0:=Hd (show LL = [x] from one_of HN.out HXX0.out)
      refine wp_region_held_drew (S:=fun u=>Q wr u) (by kernel_rfl) (by exact (Q.refl wr).drew) (fun hHeld=>?_)
      have hS:Q wr wr.drew:=hHeld
      clear hHeld
      have hq:Q wr wr.drew:=(Q.refl _).drew
      clear hq
      generalize wr.drew = yR1x0 at *
      refine tk 0 ?_
      try simp only [Act.put,sA,sB,sC]
      refine tk 1 ?_
      try simp only [Act.put,sA,sB,sC]
      refine tk 2 ?_ (hy:=fun uz hSw=>by (try dsimp only at hSw);have k0:=CE0_0.out uz hSw;have k1:=CE0_1.out uz hSw;have k2:=CE0_2.out uz hSw;have k3:=CE0_3.out uz hSw;have k4:=CE0_4.out uz hSw;have k5:=CE0_5.out uz hSw;have k6:=CE0_6.out uz hSw;have k7:=CE0_7.out uz hSw;go_simp;try with_reducible rfl)
      try simp only [Act.put,sA,sB,sC]
      refine tk 3 ?_
      try simp only [Act.put,sA,sB,sC]
      refine tk 4 ?_
      try simp only [Act.put,sA,sB,sC]
      refine tk 5 ?_
      try simp only [Act.put,sA,sB,sC]
      refine tk 6 ?_
      try simp only [Act.put,sA,sB,sC]
      refine tk 7 ?_
      try simp only [Act.put,sA,sB,sC]
      refine tk 8 ?_ (hy:=fun uz hSw=>by (try dsimp only at hSw);have k0:=CE0_0.out uz hSw;have k1:=CE0_1.out uz hSw;have k2:=CE0_2.out uz hSw;have k3:=CE0_3.out uz hSw;have k4:=CE0_4.out uz hSw;have k5:=CE0_5.out uz hSw;have k6:=CE0_6.out uz hSw;have k7:=CE0_7.out uz hSw;go_simp;try with_reducible rfl)
      try simp only [Act.put,sA,sB,sC]
      refine wpAnyH_ready (rs:=[9,10]) (by kernel_rfl) (by simp) ?_
      refine (AllReadyH.cons rfl (fun K hK=>?_) (AllReadyH.cons rfl (fun K hK=>?_) AllReadyH.nil))
      ·go_simp
       have hq:=(Q.refl yR1x0).alloc (.cells #[.slice none 0 0,.slice none 0 0,.int .i64 0,.int .i64 0,.int .i64 0,.int .i64 0,.int .i64 0,.int .i64 0] 210)
       have HB9:=Hd (Bk.new yR1x0 210 [.slice none 0 0,.slice none 0 0,.int .i64 0,.int .i64 0,.int .i64 0,.int .i64 0,.int .i64 0,.int .i64 0])
       have HW_b9:=Hd (Q.le hS)
       have hS2:=Q.trans hS hq
       refine hK.out _ _ (by exact hS2) (fun hHeld=>?_)
       clear hK K hHeld hS hq
       have hS:=hS2
       clear hS2
       generalize yR1x0.alloc (.cells #[.slice none 0 0,.slice none 0 0,.int .i64 0,.int .i64 0,.int .i64 0,.int .i64 0,.int .i64 0,.int .i64 0] 210) = yR1x10 at *
       generalize yR1x0.heap.size = b9 at *
       try simp only [Act.put,sA,sB,sC]
       refine wpAnyH_ready (rs:=[10]) (by kernel_rfl) (by simp) ?_
       refine ar fun K hK=>?_
       go_simp
       have hq:=(Q.refl yR1x10).alloc (.cells #[.slice none 0 0,.slice none 0 0,.int .i64 0,.int .i64 0,.int .i64 0,.int .i64 0,.int .i64 0,.int .i64 0] 210)
       have HB10:=Hd (Bk.new yR1x10 210 [.slice none 0 0,.slice none 0 0,.int .i64 0,.int .i64 0,.int .i64 0,.int .i64 0,.int .i64 0,.int .i64 0])
       have HW_b10:=Hd (Q.le hS)
       have HN_b9_b10:=Hd (Nat.ne_of_lt HB9.out.lt)
       have HN_b10_b9:=Hd (Nat.ne_of_gt HB9.out.lt)
       have HB9:=Hd (Bk.q HB9.out hq)
       have hS2:=Q.trans hS hq
       refine hK.out _ _ (by exact hS2) (fun hHeld=>?_)
       clear hK K hHeld hS hq
       have hS:=hS2
       clear hS2
       generalize yR1x10.alloc (.cells #[.slice none 0 0,.slice none 0 0,.int .i64 0,.int .i64 0,.int .i64 0,.int .i64 0,.int .i64 0,.int .i64 0] 210) = yR1x11 at *
       generalize yR1x10.heap.size = b10 at *
       try simp only [Act.put,sA,sB,sC]
       refine wpAnyH_ready (rs:=[11]) (by kernel_rfl) (by simp) ?_
       refine ar fun K hK=>?_
       have HNE:=Hd (show b9 ≠ b10 by first | exact HN_b9_b10.out | exact HN_b10_b9.out)
       have HNE2:=Hd (show b10 ≠ b9 by first | exact HN_b9_b10.out | exact HN_b10_b9.out)
       have b0:=HB9.out.cell 0 rfl
       have f0:=HB9.out.free 0
       have b1:=HB9.out.cell 1 rfl
       have f1:=HB9.out.free 1
       have b2:=HB9.out.cell 2 rfl
       have f2:=HB9.out.free 2
       have b3:=HB9.out.cell 3 rfl
       have f3:=HB9.out.free 3
       have b4:=HB9.out.cell 4 rfl
       have f4:=HB9.out.free 4
       have b5:=HB9.out.cell 5 rfl
       have f5:=HB9.out.free 5
       have b6:=HB9.out.cell 6 rfl
       have f6:=HB9.out.free 6
       have b7:=HB9.out.cell 7 rfl
       have f7:=HB9.out.free 7
       go_simp
       have hS2:=(Q.setCell (Q.setCell (Q.setCell (Q.setCell (Q.setCell (Q.setCell (Q.setCell (Q.setCell hS (ad:=⟨b9,0,none⟩) HW_b9.out (.slice pa0 L0 pc0)) (ad:=⟨b9,1,none⟩) HW_b9.out (.slice sa0 M0 sc0)) (ad:=⟨b9,2,none⟩) HW_b9.out (.int .i64 x.2.p)) (ad:=⟨b9,3,none⟩) HW_b9.out (.int .i64 x.2.s)) (ad:=⟨b9,4,none⟩) HW_b9.out (.int .i64 x.2.mi)) (ad:=⟨b9,5,none⟩) HW_b9.out (.int .i64 x.2.xi)) (ad:=⟨b9,6,none⟩) HW_b9.out (.int .i64 x.2.mf)) (ad:=⟨b9,7,none⟩) HW_b9.out (.int .i64 x.2.xf))
       replace HB9:=Hd ((((((((HB9.out.set 0 (.slice pa0 L0 pc0)).set 1 (.slice sa0 M0 sc0)).set 2 (.int .i64 x.2.p)).set 3 (.int .i64 x.2.s)).set 4 (.int .i64 x.2.mi)).set 5 (.int .i64 x.2.xi)).set 6 (.int .i64 x.2.mf)).set 7 (.int .i64 x.2.xf))
       replace HB10:=Hd (Bk.past (Bk.past (Bk.past (Bk.past (Bk.past (Bk.past (Bk.past (Bk.past HB10.out (g:=b9) (i:=0) HNE.out (.slice pa0 L0 pc0)) (g:=b9) (i:=1) HNE.out (.slice sa0 M0 sc0)) (g:=b9) (i:=2) HNE.out (.int .i64 x.2.p)) (g:=b9) (i:=3) HNE.out (.int .i64 x.2.s)) (g:=b9) (i:=4) HNE.out (.int .i64 x.2.mi)) (g:=b9) (i:=5) HNE.out (.int .i64 x.2.xi)) (g:=b9) (i:=6) HNE.out (.int .i64 x.2.mf)) (g:=b9) (i:=7) HNE.out (.int .i64 x.2.xf))
       refine hK.out _ _ (by exact hS2) (fun hHeld=>?_)
       clear hK K hHeld hS
       have hS:=hS2
       clear hS2 b0 f0 b1 f1 b2 f2 b3 f3 b4 f4 b5 f5 b6 f6 b7 f7
       generalize ((((((((yR1x11.setCell ⟨b9,0,none⟩ (.slice pa0 L0 pc0)).setCell ⟨b9,1,none⟩ (.slice sa0 M0 sc0)).setCell ⟨b9,2,none⟩ (.int .i64 x.2.p)).setCell ⟨b9,3,none⟩ (.int .i64 x.2.s)).setCell ⟨b9,4,none⟩ (.int .i64 x.2.mi)).setCell ⟨b9,5,none⟩ (.int .i64 x.2.xi)).setCell ⟨b9,6,none⟩ (.int .i64 x.2.mf)).setCell ⟨b9,7,none⟩ (.int .i64 x.2.xf)) = yR1x12 at *
       try simp only [Act.put,sA,sB,sC]
       refine wpAnyH_ready (rs:=[12]) (by kernel_rfl) (by simp) ?_
       refine ar fun K hK=>?_
       have b0:=HB10.out.cell 0 rfl
       have f0:=HB10.out.free 0
       have b1:=HB10.out.cell 1 rfl
       have f1:=HB10.out.free 1
       have b2:=HB10.out.cell 2 rfl
       have f2:=HB10.out.free 2
       have b3:=HB10.out.cell 3 rfl
       have f3:=HB10.out.free 3
       have b4:=HB10.out.cell 4 rfl
       have f4:=HB10.out.free 4
       have b5:=HB10.out.cell 5 rfl
       have f5:=HB10.out.free 5
       have b6:=HB10.out.cell 6 rfl
       have f6:=HB10.out.free 6
       have b7:=HB10.out.cell 7 rfl
       have f7:=HB10.out.free 7
       go_simp
       have hS2:=(Q.setCell (Q.setCell (Q.setCell (Q.setCell (Q.setCell (Q.setCell (Q.setCell (Q.setCell hS (ad:=⟨b10,0,none⟩) HW_b10.out (.slice pa0 L0 pc0)) (ad:=⟨b10,1,none⟩) HW_b10.out (.slice sa0 M0 sc0)) (ad:=⟨b10,2,none⟩) HW_b10.out (.int .i64 x.2.p)) (ad:=⟨b10,3,none⟩) HW_b10.out (.int .i64 x.2.s)) (ad:=⟨b10,4,none⟩) HW_b10.out (.int .i64 x.2.mi)) (ad:=⟨b10,5,none⟩) HW_b10.out (.int .i64 x.2.xi)) (ad:=⟨b10,6,none⟩) HW_b10.out (.int .i64 x.2.mf)) (ad:=⟨b10,7,none⟩) HW_b10.out (.int .i64 x.2.xf))
       replace HB10:=Hd ((((((((HB10.out.set 0 (.slice pa0 L0 pc0)).set 1 (.slice sa0 M0 sc0)).set 2 (.int .i64 x.2.p)).set 3 (.int .i64 x.2.s)).set 4 (.int .i64 x.2.mi)).set 5 (.int .i64 x.2.xi)).set 6 (.int .i64 x.2.mf)).set 7 (.int .i64 x.2.xf))
       replace HB9:=Hd (Bk.past (Bk.past (Bk.past (Bk.past (Bk.past (Bk.past (Bk.past (Bk.past HB9.out (g:=b10) (i:=0) HNE2.out (.slice pa0 L0 pc0)) (g:=b10) (i:=1) HNE2.out (.slice sa0 M0 sc0)) (g:=b10) (i:=2) HNE2.out (.int .i64 x.2.p)) (g:=b10) (i:=3) HNE2.out (.int .i64 x.2.s)) (g:=b10) (i:=4) HNE2.out (.int .i64 x.2.mi)) (g:=b10) (i:=5) HNE2.out (.int .i64 x.2.xi)) (g:=b10) (i:=6) HNE2.out (.int .i64 x.2.mf)) (g:=b10) (i:=7) HNE2.out (.int .i64 x.2.xf))
       refine hK.out _ _ (by exact hS2) (fun hHeld=>?_)
       clear hK K hHeld hS
       have hS:=hS2
       clear hS2 b0 f0 b1 f1 b2 f2 b3 f3 b4 f4 b5 f5 b6 f6 b7 f7
       generalize ((((((((yR1x12.setCell ⟨b10,0,none⟩ (.slice pa0 L0 pc0)).setCell ⟨b10,1,none⟩ (.slice sa0 M0 sc0)).setCell ⟨b10,2,none⟩ (.int .i64 x.2.p)).setCell ⟨b10,3,none⟩ (.int .i64 x.2.s)).setCell ⟨b10,4,none⟩ (.int .i64 x.2.mi)).setCell ⟨b10,5,none⟩ (.int .i64 x.2.xi)).setCell ⟨b10,6,none⟩ (.int .i64 x.2.mf)).setCell ⟨b10,7,none⟩ (.int .i64 x.2.xf)) = yR1x13 at *
       try simp only [Act.put,sA,sB,sC]
       refine wpAnyH_done (by kernel_rfl) ?_ _
       obtain ⟨z,hz⟩:∃ z,z = yR1x13.alloc (.cells #[.slice pa0 L0 pc0,.slice sa0 M0 sc0,.slice pa0 L0 pc0,.slice sa0 M0 sc0,.int .i64 x.2.p,.int .i64 x.2.s,.int .i64 x.2.mi,.int .i64 x.2.mf,.int .i64 x.2.xf] 120):=⟨_,rfl⟩
       have HBZ:=Hd (show Bk z yR1x13.heap.size 120 [.slice pa0 L0 pc0,.slice sa0 M0 sc0,.slice pa0 L0 pc0,.slice sa0 M0 sc0,.int .i64 x.2.p,.int .i64 x.2.s,.int .i64 x.2.mi,.int .i64 x.2.mf,.int .i64 x.2.xf] by rw [hz];exact Bk.new _ _ _)
       have hqz:Q yR1x13 z:=by rw [hz];exact (Q.refl _).alloc _
       have HQz:=Hd (Q.trans hS hqz)
       have HB9z:=Hd (HB9.out.q hqz)
       have HBw:=Hd ((HBR.out.q hq).q HQz.out)
       have p0:=HB9.out.cell 0 rfl
       have q0:=HB10.out.cell 0 rfl
       have p1:=HB9.out.cell 1 rfl
       have q1:=HB10.out.cell 1 rfl
       have p2:=HB9.out.cell 2 rfl
       have q2:=HB10.out.cell 2 rfl
       have p3:=HB9.out.cell 3 rfl
       have q3:=HB10.out.cell 3 rfl
       have p4:=HB9.out.cell 4 rfl
       have q4:=HB10.out.cell 4 rfl
       have p5:=HB9.out.cell 5 rfl
       have q5:=HB10.out.cell 5 rfl
       have p6:=HB9.out.cell 6 rfl
       have q6:=HB10.out.cell 6 rfl
       have p7:=HB9.out.cell 7 rfl
       have q7:=HB10.out.cell 7 rfl
       have HZW:=Hd (Q.le hS)
       go_upto_region 16 with fail
       rw [<- hz]
       clear hz hqz hS HB9 HB10 p0 q0 p1 q1 p2 q2 p3 q3 p4 q4 p5 q5 p6 q6 p7 q7
       obtain ⟨bz,hbz⟩:∃ b,b = yR1x13.heap.size:=⟨_,rfl⟩
       rw [<- hbz] at HBZ HZW |-
       clear hbz
       have HNG:=Hd (fun v (h:Q wr v)=>negative_any (.slice pa0 L0 pc0) (.slice sa0 M0 sc0) (prP x.1) (suP x.1) v (HP0.out.1.q h) (HS0.out.1.q h) (by rw [HL0.out];have:=HPl0.out;omega) (by rw [HM0.out];have:=HSl0.out;omega))
       have p0:=HB9z.out.cell 0 rfl
       have p1:=HB9z.out.cell 1 rfl
       go_wp2_with fail
       clear p0 p1
       refine (HNG.out z HQz.out).mono ?_
       rintro e z2 ⟨nv,sv,rfl,hn1,hn2,hq2⟩
       obtain ⟨L3,hL3⟩:∃ L3,((3,[]) :: prP x.1:List Pc.E).length = L3:=⟨_,rfl⟩
       obtain ⟨na,nc,rfl,_,_⟩:=hn1.1.form0 hL3
       obtain ⟨va2,vc2,rfl,_,_⟩:=hn2.1.form0 HM0.out
       have HBZ2:=Hd (HBZ.out.q hq2)
       have HBw2:=Hd (HBw.out.q hq2)
       have hbzl:bz < z.heap.size:=HBZ.out.lt
       have hbwz:w.heap.size ≠ bz:=by
        have h1:=HBR.out.lt
        have h2:=HZW.out
        have h3:=hq.le
        omega
       have HN3:=Hd (New.past (New.past (hn1.mono (show bz + 1 <= _ from hbzl)) 2 (.slice na L3 nc)) 3 (.slice va2 M0 vc2))
       have HN4:=Hd (New.past (New.past (hn2.mono (show bz + 1 <= _ from hbzl)) 2 (.slice na L3 nc)) 3 (.slice va2 M0 vc2))
       have HBZ3:=Hd ((HBZ2.out.set 2 (.slice na L3 nc)).set 3 (.slice va2 M0 vc2))
       have HBw3:=Hd ((HBw2.out.past (g:=bz) (i:=2) (Ne.symm hbwz) (.slice na L3 nc)).past (g:=bz) (i:=3) (Ne.symm hbwz) (.slice va2 M0 vc2))
       have HQ3:=Hd (Q.setCell (Q.setCell (Q.trans HQz.out hq2) (ad:=⟨bz,2,none⟩) HZW.out (.slice na L3 nc)) (ad:=⟨bz,3,none⟩) HZW.out (.slice va2 M0 vc2))
       obtain ⟨z3,hz3⟩:∃ z3,z3 = (z2.setCell ⟨bz,2,none⟩ (.slice na L3 nc)).setCell ⟨bz,3,none⟩ (.slice va2 M0 vc2):=⟨_,rfl⟩
       rw [<- hz3] at HN3 HN4 HBZ3 HBw3 HQ3
       have p2:=HBZ2.out.cell 2 rfl
       have f2:=HBZ2.out.free 2
       have p3:=HBZ2.out.cell 3 rfl
       have f3:=HBZ2.out.free 3
       go_upto_region 18 with fail
       rw [<- hz3]
       clear hz3 p2 f2 p3 f3 hn1 hn2 hq2 HBZ HBZ2 HBw HBw2 HB9z HQz
       have p0:=HBZ3.out.cell 0 rfl
       have q0:=HBw3.out.cell 0 rfl
       have f0:=HBw3.out.free 0
       have p1:=HBZ3.out.cell 1 rfl
       have q1:=HBw3.out.cell 1 rfl
       have f1:=HBw3.out.free 1
       have p2:=HBZ3.out.cell 2 rfl
       have q2:=HBw3.out.cell 2 rfl
       have f2:=HBw3.out.free 2
       have p3:=HBZ3.out.cell 3 rfl
       have q3:=HBw3.out.cell 3 rfl
       have f3:=HBw3.out.free 3
       have p4:=HBZ3.out.cell 4 rfl
       have q4:=HBw3.out.cell 4 rfl
       have f4:=HBw3.out.free 4
       have p5:=HBZ3.out.cell 5 rfl
       have q5:=HBw3.out.cell 5 rfl
       have f5:=HBw3.out.free 5
       have p6:=HBZ3.out.cell 6 rfl
       have q6:=HBw3.out.cell 6 rfl
       have f6:=HBw3.out.free 6
       have p7:=HBZ3.out.cell 7 rfl
       have q7:=HBw3.out.cell 7 rfl
       have f7:=HBw3.out.free 7
       have p8:=HBZ3.out.cell 8 rfl
       have q8:=HBw3.out.cell 8 rfl
       have f8:=HBw3.out.free 8
       have HBF:=Hd (((((((((HBw3.out.set 0 (.slice pa0 L0 pc0)).set 1 (.slice sa0 M0 sc0)).set 2 (.slice na L3 nc)).set 3 (.slice va2 M0 vc2)).set 4 (.int .i64 x.2.p)).set 5 (.int .i64 x.2.s)).set 6 (.int .i64 x.2.mi)).set 7 (.int .i64 x.2.mf)).set 8 (.int .i64 x.2.xf))
       have HQF:=Hd (Q.setCell (Q.setCell (Q.setCell (Q.setCell (Q.setCell (Q.setCell (Q.setCell (Q.setCell (Q.setCell (HQR.out.trans (Q.trans hq HQ3.out)) (ad:=⟨w.heap.size,0,none⟩) (Nat.le_refl _) (.slice pa0 L0 pc0)) (ad:=⟨w.heap.size,1,none⟩) (Nat.le_refl _) (.slice sa0 M0 sc0)) (ad:=⟨w.heap.size,2,none⟩) (Nat.le_refl _) (.slice na L3 nc)) (ad:=⟨w.heap.size,3,none⟩) (Nat.le_refl _) (.slice va2 M0 vc2)) (ad:=⟨w.heap.size,4,none⟩) (Nat.le_refl _) (.int .i64 x.2.p)) (ad:=⟨w.heap.size,5,none⟩) (Nat.le_refl _) (.int .i64 x.2.s)) (ad:=⟨w.heap.size,6,none⟩) (Nat.le_refl _) (.int .i64 x.2.mi)) (ad:=⟨w.heap.size,7,none⟩) (Nat.le_refl _) (.int .i64 x.2.mf)) (ad:=⟨w.heap.size,8,none⟩) (Nat.le_refl _) (.int .i64 x.2.xf))
       have hw2:w.heap.size + 1 <= w2.heap.size:=HB2.out.lt
       have hbz1:w.heap.size + 1 <= bz + 1:=by have h2:=HZW.out;have h3:=hq.le;have h1:=HBR.out.lt;omega
       have HA1:=Hd (New.past (New.past (New.past (New.past (New.past (New.past (New.past (New.past (New.past (New.past0 (HP0.out.q HQ3.out) hw2) 0 (.slice pa0 L0 pc0)) 1 (.slice sa0 M0 sc0)) 2 (.slice na L3 nc)) 3 (.slice va2 M0 vc2)) 4 (.int .i64 x.2.p)) 5 (.int .i64 x.2.s)) 6 (.int .i64 x.2.mi)) 7 (.int .i64 x.2.mf)) 8 (.int .i64 x.2.xf))
       have HA2:=Hd (New.past (New.past (New.past (New.past (New.past (New.past (New.past (New.past (New.past (New.past0 (HS0.out.q HQ3.out) hw2) 0 (.slice pa0 L0 pc0)) 1 (.slice sa0 M0 sc0)) 2 (.slice na L3 nc)) 3 (.slice va2 M0 vc2)) 4 (.int .i64 x.2.p)) 5 (.int .i64 x.2.s)) 6 (.int .i64 x.2.mi)) 7 (.int .i64 x.2.mf)) 8 (.int .i64 x.2.xf))
       have HA3:=Hd (New.past (New.past (New.past (New.past (New.past (New.past (New.past (New.past (New.past (New.past0 HN3.out hbz1) 0 (.slice pa0 L0 pc0)) 1 (.slice sa0 M0 sc0)) 2 (.slice na L3 nc)) 3 (.slice va2 M0 vc2)) 4 (.int .i64 x.2.p)) 5 (.int .i64 x.2.s)) 6 (.int .i64 x.2.mi)) 7 (.int .i64 x.2.mf)) 8 (.int .i64 x.2.xf))
       have HA4:=Hd (New.past (New.past (New.past (New.past (New.past (New.past (New.past (New.past (New.past (New.past0 HN4.out hbz1) 0 (.slice pa0 L0 pc0)) 1 (.slice sa0 M0 sc0)) 2 (.slice na L3 nc)) 3 (.slice va2 M0 vc2)) 4 (.int .i64 x.2.p)) 5 (.int .i64 x.2.s)) 6 (.int .i64 x.2.mi)) 7 (.int .i64 x.2.mf)) 8 (.int .i64 x.2.xf))
       go_wp2_with fail
       refine ret_bk rfl Tryz.underlying120 (by exact infoPt) rfl HBF.out rfl ⟨HQF.out,.inr ⟨HNL.out,_,rfl,?_⟩⟩
       rw [HLL0.out]
       exact ⟨_,_,_,_,rfl,HA1.out.mono (Nat.le_succ _),HA2.out.mono (Nat.le_succ _),HA3.out.mono (Nat.le_succ _),HA4.out.mono (Nat.le_succ _)⟩
      ·go_simp
       have hq:=(Q.refl yR1x0).alloc (.cells #[.slice none 0 0,.slice none 0 0,.int .i64 0,.int .i64 0,.int .i64 0,.int .i64 0,.int .i64 0,.int .i64 0] 210)
       have HB10:=Hd (Bk.new yR1x0 210 [.slice none 0 0,.slice none 0 0,.int .i64 0,.int .i64 0,.int .i64 0,.int .i64 0,.int .i64 0,.int .i64 0])
       have HW_b10:=Hd (Q.le hS)
       have hS2:=Q.trans hS hq
       refine hK.out _ _ (by exact hS2) (fun hHeld=>?_)
       clear hK K hHeld hS hq
       have hS:=hS2
       clear hS2
       generalize yR1x0.alloc (.cells #[.slice none 0 0,.slice none 0 0,.int .i64 0,.int .i64 0,.int .i64 0,.int .i64 0,.int .i64 0,.int .i64 0] 210) = yR1x14 at *
       generalize yR1x0.heap.size = b10 at *
       try simp only [Act.put,sA,sB,sC]
       refine wpAnyH_ready (rs:=[9]) (by kernel_rfl) (by simp) ?_
       refine ar fun K hK=>?_
       go_simp
       have hq:=(Q.refl yR1x14).alloc (.cells #[.slice none 0 0,.slice none 0 0,.int .i64 0,.int .i64 0,.int .i64 0,.int .i64 0,.int .i64 0,.int .i64 0] 210)
       have HB9:=Hd (Bk.new yR1x14 210 [.slice none 0 0,.slice none 0 0,.int .i64 0,.int .i64 0,.int .i64 0,.int .i64 0,.int .i64 0,.int .i64 0])
       have HW_b9:=Hd (Q.le hS)
       have HN_b10_b9:=Hd (Nat.ne_of_lt HB10.out.lt)
       have HN_b9_b10:=Hd (Nat.ne_of_gt HB10.out.lt)
       have HB10:=Hd (Bk.q HB10.out hq)
       have hS2:=Q.trans hS hq
       refine hK.out _ _ (by exact hS2) (fun hHeld=>?_)
       clear hK K hHeld hS hq
       have hS:=hS2
       clear hS2
       generalize yR1x14.alloc (.cells #[.slice none 0 0,.slice none 0 0,.int .i64 0,.int .i64 0,.int .i64 0,.int .i64 0,.int .i64 0,.int .i64 0] 210) = yR1x15 at *
       generalize yR1x14.heap.size = b9 at *
       try simp only [Act.put,sA,sB,sC]
       refine wpAnyH_ready (rs:=[11]) (by kernel_rfl) (by simp) ?_
       refine ar fun K hK=>?_
       have HNE:=Hd (show b9 ≠ b10 by first | exact HN_b9_b10.out | exact HN_b10_b9.out)
       have HNE2:=Hd (show b10 ≠ b9 by first | exact HN_b9_b10.out | exact HN_b10_b9.out)
       have b0:=HB9.out.cell 0 rfl
       have f0:=HB9.out.free 0
       have b1:=HB9.out.cell 1 rfl
       have f1:=HB9.out.free 1
       have b2:=HB9.out.cell 2 rfl
       have f2:=HB9.out.free 2
       have b3:=HB9.out.cell 3 rfl
       have f3:=HB9.out.free 3
       have b4:=HB9.out.cell 4 rfl
       have f4:=HB9.out.free 4
       have b5:=HB9.out.cell 5 rfl
       have f5:=HB9.out.free 5
       have b6:=HB9.out.cell 6 rfl
       have f6:=HB9.out.free 6
       have b7:=HB9.out.cell 7 rfl
       have f7:=HB9.out.free 7
       go_simp
       have hS2:=(Q.setCell (Q.setCell (Q.setCell (Q.setCell (Q.setCell (Q.setCell (Q.setCell (Q.setCell hS (ad:=⟨b9,0,none⟩) HW_b9.out (.slice pa0 L0 pc0)) (ad:=⟨b9,1,none⟩) HW_b9.out (.slice sa0 M0 sc0)) (ad:=⟨b9,2,none⟩) HW_b9.out (.int .i64 x.2.p)) (ad:=⟨b9,3,none⟩) HW_b9.out (.int .i64 x.2.s)) (ad:=⟨b9,4,none⟩) HW_b9.out (.int .i64 x.2.mi)) (ad:=⟨b9,5,none⟩) HW_b9.out (.int .i64 x.2.xi)) (ad:=⟨b9,6,none⟩) HW_b9.out (.int .i64 x.2.mf)) (ad:=⟨b9,7,none⟩) HW_b9.out (.int .i64 x.2.xf))
       replace HB9:=Hd ((((((((HB9.out.set 0 (.slice pa0 L0 pc0)).set 1 (.slice sa0 M0 sc0)).set 2 (.int .i64 x.2.p)).set 3 (.int .i64 x.2.s)).set 4 (.int .i64 x.2.mi)).set 5 (.int .i64 x.2.xi)).set 6 (.int .i64 x.2.mf)).set 7 (.int .i64 x.2.xf))
       replace HB10:=Hd (Bk.past (Bk.past (Bk.past (Bk.past (Bk.past (Bk.past (Bk.past (Bk.past HB10.out (g:=b9) (i:=0) HNE.out (.slice pa0 L0 pc0)) (g:=b9) (i:=1) HNE.out (.slice sa0 M0 sc0)) (g:=b9) (i:=2) HNE.out (.int .i64 x.2.p)) (g:=b9) (i:=3) HNE.out (.int .i64 x.2.s)) (g:=b9) (i:=4) HNE.out (.int .i64 x.2.mi)) (g:=b9) (i:=5) HNE.out (.int .i64 x.2.xi)) (g:=b9) (i:=6) HNE.out (.int .i64 x.2.mf)) (g:=b9) (i:=7) HNE.out (.int .i64 x.2.xf))
       refine hK.out _ _ (by exact hS2) (fun hHeld=>?_)
       clear hK K hHeld hS
       have hS:=hS2
       clear hS2 b0 f0 b1 f1 b2 f2 b3 f3 b4 f4 b5 f5 b6 f6 b7 f7
       generalize ((((((((yR1x15.setCell ⟨b9,0,none⟩ (.slice pa0 L0 pc0)).setCell ⟨b9,1,none⟩ (.slice sa0 M0 sc0)).setCell ⟨b9,2,none⟩ (.int .i64 x.2.p)).setCell ⟨b9,3,none⟩ (.int .i64 x.2.s)).setCell ⟨b9,4,none⟩ (.int .i64 x.2.mi)).setCell ⟨b9,5,none⟩ (.int .i64 x.2.xi)).setCell ⟨b9,6,none⟩ (.int .i64 x.2.mf)).setCell ⟨b9,7,none⟩ (.int .i64 x.2.xf)) = yR1x16 at *
       try simp only [Act.put,sA,sB,sC]
       refine wpAnyH_ready (rs:=[12]) (by kernel_rfl) (by simp) ?_
       refine ar fun K hK=>?_
       have b0:=HB10.out.cell 0 rfl
       have f0:=HB10.out.free 0
       have b1:=HB10.out.cell 1 rfl
       have f1:=HB10.out.free 1
       have b2:=HB10.out.cell 2 rfl
       have f2:=HB10.out.free 2
       have b3:=HB10.out.cell 3 rfl
       have f3:=HB10.out.free 3
       have b4:=HB10.out.cell 4 rfl
       have f4:=HB10.out.free 4
       have b5:=HB10.out.cell 5 rfl
       have f5:=HB10.out.free 5
       have b6:=HB10.out.cell 6 rfl
       have f6:=HB10.out.free 6
       have b7:=HB10.out.cell 7 rfl
       have f7:=HB10.out.free 7
       go_simp
       have hS2:=(Q.setCell (Q.setCell (Q.setCell (Q.setCell (Q.setCell (Q.setCell (Q.setCell (Q.setCell hS (ad:=⟨b10,0,none⟩) HW_b10.out (.slice pa0 L0 pc0)) (ad:=⟨b10,1,none⟩) HW_b10.out (.slice sa0 M0 sc0)) (ad:=⟨b10,2,none⟩) HW_b10.out (.int .i64 x.2.p)) (ad:=⟨b10,3,none⟩) HW_b10.out (.int .i64 x.2.s)) (ad:=⟨b10,4,none⟩) HW_b10.out (.int .i64 x.2.mi)) (ad:=⟨b10,5,none⟩) HW_b10.out (.int .i64 x.2.xi)) (ad:=⟨b10,6,none⟩) HW_b10.out (.int .i64 x.2.mf)) (ad:=⟨b10,7,none⟩) HW_b10.out (.int .i64 x.2.xf))
       replace HB10:=Hd ((((((((HB10.out.set 0 (.slice pa0 L0 pc0)).set 1 (.slice sa0 M0 sc0)).set 2 (.int .i64 x.2.p)).set 3 (.int .i64 x.2.s)).set 4 (.int .i64 x.2.mi)).set 5 (.int .i64 x.2.xi)).set 6 (.int .i64 x.2.mf)).set 7 (.int .i64 x.2.xf))
       replace HB9:=Hd (Bk.past (Bk.past (Bk.past (Bk.past (Bk.past (Bk.past (Bk.past (Bk.past HB9.out (g:=b10) (i:=0) HNE2.out (.slice pa0 L0 pc0)) (g:=b10) (i:=1) HNE2.out (.slice sa0 M0 sc0)) (g:=b10) (i:=2) HNE2.out (.int .i64 x.2.p)) (g:=b10) (i:=3) HNE2.out (.int .i64 x.2.s)) (g:=b10) (i:=4) HNE2.out (.int .i64 x.2.mi)) (g:=b10) (i:=5) HNE2.out (.int .i64 x.2.xi)) (g:=b10) (i:=6) HNE2.out (.int .i64 x.2.mf)) (g:=b10) (i:=7) HNE2.out (.int .i64 x.2.xf))
       refine hK.out _ _ (by exact hS2) (fun hHeld=>?_)
       clear hK K hHeld hS
       have hS:=hS2
       clear hS2 b0 f0 b1 f1 b2 f2 b3 f3 b4 f4 b5 f5 b6 f6 b7 f7
       generalize ((((((((yR1x16.setCell ⟨b10,0,none⟩ (.slice pa0 L0 pc0)).setCell ⟨b10,1,none⟩ (.slice sa0 M0 sc0)).setCell ⟨b10,2,none⟩ (.int .i64 x.2.p)).setCell ⟨b10,3,none⟩ (.int .i64 x.2.s)).setCell ⟨b10,4,none⟩ (.int .i64 x.2.mi)).setCell ⟨b10,5,none⟩ (.int .i64 x.2.xi)).setCell ⟨b10,6,none⟩ (.int .i64 x.2.mf)).setCell ⟨b10,7,none⟩ (.int .i64 x.2.xf)) = yR1x17 at *
       try simp only [Act.put,sA,sB,sC]
       refine wpAnyH_done (by kernel_rfl) ?_ _
       obtain ⟨z,hz⟩:∃ z,z = yR1x17.alloc (.cells #[.slice pa0 L0 pc0,.slice sa0 M0 sc0,.slice pa0 L0 pc0,.slice sa0 M0 sc0,.int .i64 x.2.p,.int .i64 x.2.s,.int .i64 x.2.mi,.int .i64 x.2.mf,.int .i64 x.2.xf] 120):=⟨_,rfl⟩
       have HBZ:=Hd (show Bk z yR1x17.heap.size 120 [.slice pa0 L0 pc0,.slice sa0 M0 sc0,.slice pa0 L0 pc0,.slice sa0 M0 sc0,.int .i64 x.2.p,.int .i64 x.2.s,.int .i64 x.2.mi,.int .i64 x.2.mf,.int .i64 x.2.xf] by rw [hz];exact Bk.new _ _ _)
       have hqz:Q yR1x17 z:=by rw [hz];exact (Q.refl _).alloc _
       have HQz:=Hd (Q.trans hS hqz)
       have HB9z:=Hd (HB9.out.q hqz)
       have HBw:=Hd ((HBR.out.q hq).q HQz.out)
       have p0:=HB9.out.cell 0 rfl
       have q0:=HB10.out.cell 0 rfl
       have p1:=HB9.out.cell 1 rfl
       have q1:=HB10.out.cell 1 rfl
       have p2:=HB9.out.cell 2 rfl
       have q2:=HB10.out.cell 2 rfl
       have p3:=HB9.out.cell 3 rfl
       have q3:=HB10.out.cell 3 rfl
       have p4:=HB9.out.cell 4 rfl
       have q4:=HB10.out.cell 4 rfl
       have p5:=HB9.out.cell 5 rfl
       have q5:=HB10.out.cell 5 rfl
       have p6:=HB9.out.cell 6 rfl
       have q6:=HB10.out.cell 6 rfl
       have p7:=HB9.out.cell 7 rfl
       have q7:=HB10.out.cell 7 rfl
       have HZW:=Hd (Q.le hS)
       go_upto_region 16 with fail
       rw [<- hz]
       clear hz hqz hS HB9 HB10 p0 q0 p1 q1 p2 q2 p3 q3 p4 q4 p5 q5 p6 q6 p7 q7
       obtain ⟨bz,hbz⟩:∃ b,b = yR1x17.heap.size:=⟨_,rfl⟩
       rw [<- hbz] at HBZ HZW |-
       clear hbz
       have HNG:=Hd (fun v (h:Q wr v)=>negative_any (.slice pa0 L0 pc0) (.slice sa0 M0 sc0) (prP x.1) (suP x.1) v (HP0.out.1.q h) (HS0.out.1.q h) (by rw [HL0.out];have:=HPl0.out;omega) (by rw [HM0.out];have:=HSl0.out;omega))
       have p0:=HB9z.out.cell 0 rfl
       have p1:=HB9z.out.cell 1 rfl
       go_wp2_with fail
       clear p0 p1
       refine (HNG.out z HQz.out).mono ?_
       rintro e z2 ⟨nv,sv,rfl,hn1,hn2,hq2⟩
       obtain ⟨L3,hL3⟩:∃ L3,((3,[]) :: prP x.1:List Pc.E).length = L3:=⟨_,rfl⟩
       obtain ⟨na,nc,rfl,_,_⟩:=hn1.1.form0 hL3
       obtain ⟨va2,vc2,rfl,_,_⟩:=hn2.1.form0 HM0.out
       have HBZ2:=Hd (HBZ.out.q hq2)
       have HBw2:=Hd (HBw.out.q hq2)
       have hbzl:bz < z.heap.size:=HBZ.out.lt
       have hbwz:w.heap.size ≠ bz:=by
        have h1:=HBR.out.lt
        have h2:=HZW.out
        have h3:=hq.le
        omega
       have HN3:=Hd (New.past (New.past (hn1.mono (show bz + 1 <= _ from hbzl)) 2 (.slice na L3 nc)) 3 (.slice va2 M0 vc2))
       have HN4:=Hd (New.past (New.past (hn2.mono (show bz + 1 <= _ from hbzl)) 2 (.slice na L3 nc)) 3 (.slice va2 M0 vc2))
       have HBZ3:=Hd ((HBZ2.out.set 2 (.slice na L3 nc)).set 3 (.slice va2 M0 vc2))
       have HBw3:=Hd ((HBw2.out.past (g:=bz) (i:=2) (Ne.symm hbwz) (.slice na L3 nc)).past (g:=bz) (i:=3) (Ne.symm hbwz) (.slice va2 M0 vc2))
       have HQ3:=Hd (Q.setCell (Q.setCell (Q.trans HQz.out hq2) (ad:=⟨bz,2,none⟩) HZW.out (.slice na L3 nc)) (ad:=⟨bz,3,none⟩) HZW.out (.slice va2 M0 vc2))
       obtain ⟨z3,hz3⟩:∃ z3,z3 = (z2.setCell ⟨bz,2,none⟩ (.slice na L3 nc)).setCell ⟨bz,3,none⟩ (.slice va2 M0 vc2):=⟨_,rfl⟩
       rw [<- hz3] at HN3 HN4 HBZ3 HBw3 HQ3
       have p2:=HBZ2.out.cell 2 rfl
       have f2:=HBZ2.out.free 2
       have p3:=HBZ2.out.cell 3 rfl
       have f3:=HBZ2.out.free 3
       go_upto_region 18 with fail
       rw [<- hz3]
       clear hz3 p2 f2 p3 f3 hn1 hn2 hq2 HBZ HBZ2 HBw HBw2 HB9z HQz
       have p0:=HBZ3.out.cell 0 rfl
       have q0:=HBw3.out.cell 0 rfl
       have f0:=HBw3.out.free 0
       have p1:=HBZ3.out.cell 1 rfl
       have q1:=HBw3.out.cell 1 rfl
       have f1:=HBw3.out.free 1
       have p2:=HBZ3.out.cell 2 rfl
       have q2:=HBw3.out.cell 2 rfl
       have f2:=HBw3.out.free 2
       have p3:=HBZ3.out.cell 3 rfl
       have q3:=HBw3.out.cell 3 rfl
       have f3:=HBw3.out.free 3
       have p4:=HBZ3.out.cell 4 rfl
       have q4:=HBw3.out.cell 4 rfl
       have f4:=HBw3.out.free 4
       have p5:=HBZ3.out.cell 5 rfl
       have q5:=HBw3.out.cell 5 rfl
       have f5:=HBw3.out.free 5
       have p6:=HBZ3.out.cell 6 rfl
       have q6:=HBw3.out.cell 6 rfl
       have f6:=HBw3.out.free 6
       have p7:=HBZ3.out.cell 7 rfl
       have q7:=HBw3.out.cell 7 rfl
       have f7:=HBw3.out.free 7
       have p8:=HBZ3.out.cell 8 rfl
       have q8:=HBw3.out.cell 8 rfl
       have f8:=HBw3.out.free 8
       have HBF:=Hd (((((((((HBw3.out.set 0 (.slice pa0 L0 pc0)).set 1 (.slice sa0 M0 sc0)).set 2 (.slice na L3 nc)).set 3 (.slice va2 M0 vc2)).set 4 (.int .i64 x.2.p)).set 5 (.int .i64 x.2.s)).set 6 (.int .i64 x.2.mi)).set 7 (.int .i64 x.2.mf)).set 8 (.int .i64 x.2.xf))
       have HQF:=Hd (Q.setCell (Q.setCell (Q.setCell (Q.setCell (Q.setCell (Q.setCell (Q.setCell (Q.setCell (Q.setCell (HQR.out.trans (Q.trans hq HQ3.out)) (ad:=⟨w.heap.size,0,none⟩) (Nat.le_refl _) (.slice pa0 L0 pc0)) (ad:=⟨w.heap.size,1,none⟩) (Nat.le_refl _) (.slice sa0 M0 sc0)) (ad:=⟨w.heap.size,2,none⟩) (Nat.le_refl _) (.slice na L3 nc)) (ad:=⟨w.heap.size,3,none⟩) (Nat.le_refl _) (.slice va2 M0 vc2)) (ad:=⟨w.heap.size,4,none⟩) (Nat.le_refl _) (.int .i64 x.2.p)) (ad:=⟨w.heap.size,5,none⟩) (Nat.le_refl _) (.int .i64 x.2.s)) (ad:=⟨w.heap.size,6,none⟩) (Nat.le_refl _) (.int .i64 x.2.mi)) (ad:=⟨w.heap.size,7,none⟩) (Nat.le_refl _) (.int .i64 x.2.mf)) (ad:=⟨w.heap.size,8,none⟩) (Nat.le_refl _) (.int .i64 x.2.xf))
       have hw2:w.heap.size + 1 <= w2.heap.size:=HB2.out.lt
       have hbz1:w.heap.size + 1 <= bz + 1:=by have h2:=HZW.out;have h3:=hq.le;have h1:=HBR.out.lt;omega
       have HA1:=Hd (New.past (New.past (New.past (New.past (New.past (New.past (New.past (New.past (New.past (New.past0 (HP0.out.q HQ3.out) hw2) 0 (.slice pa0 L0 pc0)) 1 (.slice sa0 M0 sc0)) 2 (.slice na L3 nc)) 3 (.slice va2 M0 vc2)) 4 (.int .i64 x.2.p)) 5 (.int .i64 x.2.s)) 6 (.int .i64 x.2.mi)) 7 (.int .i64 x.2.mf)) 8 (.int .i64 x.2.xf))
       have HA2:=Hd (New.past (New.past (New.past (New.past (New.past (New.past (New.past (New.past (New.past (New.past0 (HS0.out.q HQ3.out) hw2) 0 (.slice pa0 L0 pc0)) 1 (.slice sa0 M0 sc0)) 2 (.slice na L3 nc)) 3 (.slice va2 M0 vc2)) 4 (.int .i64 x.2.p)) 5 (.int .i64 x.2.s)) 6 (.int .i64 x.2.mi)) 7 (.int .i64 x.2.mf)) 8 (.int .i64 x.2.xf))
       have HA3:=Hd (New.past (New.past (New.past (New.past (New.past (New.past (New.past (New.past (New.past (New.past0 HN3.out hbz1) 0 (.slice pa0 L0 pc0)) 1 (.slice sa0 M0 sc0)) 2 (.slice na L3 nc)) 3 (.slice va2 M0 vc2)) 4 (.int .i64 x.2.p)) 5 (.int .i64 x.2.s)) 6 (.int .i64 x.2.mi)) 7 (.int .i64 x.2.mf)) 8 (.int .i64 x.2.xf))
       have HA4:=Hd (New.past (New.past (New.past (New.past (New.past (New.past (New.past (New.past (New.past (New.past0 HN4.out hbz1) 0 (.slice pa0 L0 pc0)) 1 (.slice sa0 M0 sc0)) 2 (.slice na L3 nc)) 3 (.slice va2 M0 vc2)) 4 (.int .i64 x.2.p)) 5 (.int .i64 x.2.s)) 6 (.int .i64 x.2.mi)) 7 (.int .i64 x.2.mf)) 8 (.int .i64 x.2.xf))
       go_wp2_with fail
       refine ret_bk rfl Tryz.underlying120 (by exact infoPt) rfl HBF.out rfl ⟨HQF.out,.inr ⟨HNL.out,_,rfl,?_⟩⟩
       rw [HLL0.out]
       exact ⟨_,_,_,_,rfl,HA1.out.mono (Nat.le_succ _),HA2.out.mono (Nat.le_succ _),HA3.out.mono (Nat.le_succ _),HA4.out.mono (Nat.le_succ _)⟩
     ·obtain rfl:=hn1
      obtain ⟨x,hx⟩:∃ x,LL[0]? = some x:=⟨_,List.getElem?_eq_getElem (by have:=HN.out;omega)⟩
      obtain ⟨h,hh⟩:∃ h,hs'[0]? = some h:=⟨_,List.getElem?_eq_getElem (by have:=HSK.out;omega)⟩
      have hcc0:=HC.out 0 h x hh hx
      have hok0:=(HO.out h (List.mem_of_getElem? hh)).1
      obtain ⟨g0,cap0,hvv,_,hg0,_,_,hd0⟩:=HOH.out.cellOf HSK.out hh
      cases hvv
      obtain ⟨pa0,pc0,sa0,sc0,P0,S0,nb0⟩:=h
      simp only at hcc0
      obtain ⟨rfl,rfl,rfl⟩:=hcc0
      have HXX0:=Hd hx
      have HP0:=Hd (show Pc.New wr w2.heap.size (.slice pa0 (prP x.1).length pc0) (prP x.1) from hok0.1.q hq)
      have HS0:=Hd (show Pc.New wr w2.heap.size (.slice sa0 (suP x.1).length sc0) (suP x.1) from hok0.2.q hq)
      have hd0:=fun (u:World) (hu:Q wr u) (j:Nat) (yv:Value) (hj:(Hm.cells ⟨pa0,pc0,sa0,sc0,prP x.1,suP x.1,x.2⟩)[j]? = some yv)=>(World.cell?_of_block (w:=wa) ((Q.trans hq hu).block hg0)).trans (hd0 j yv hj)
      have hpl0:=Nat.le_trans (prP_le x.1) (HPL.out x (List.mem_of_getElem? hx))
      have hsl0:=Nat.le_trans (suP_le x.1) (HPL.out x (List.mem_of_getElem? hx))
      have HPl0:=Hd hpl0
      have HSl0:=Hd hsl0
      obtain ⟨L0,hL0⟩:∃ L,(prP x.1).length = L:=⟨_,rfl⟩
      obtain ⟨M0,hM0⟩:∃ L,(suP x.1).length = L:=⟨_,rfl⟩
      have CE0_0:=Hd (show ∀ u,Q wr u -> u.cell? ⟨g0,0,none⟩ = some (.slice pa0 L0 pc0) from fun u hu=>hd0 u hu 0 _ (by rw [<- hL0];rfl))
      have CE0_1:=Hd (show ∀ u,Q wr u -> u.cell? ⟨g0,1,none⟩ = some (.slice sa0 M0 sc0) from fun u hu=>hd0 u hu 1 _ (by rw [<- hM0];rfl))
      have CE0_2:=Hd (show ∀ u,Q wr u -> u.cell? ⟨g0,2,none⟩ = some (.int .i64 x.2.p) from fun u hu=>hd0 u hu 2 _ (by rfl))
      have CE0_3:=Hd (show ∀ u,Q wr u -> u.cell? ⟨g0,3,none⟩ = some (.int .i64 x.2.s) from fun u hu=>hd0 u hu 3 _ (by rfl))
      have CE0_4:=Hd (show ∀ u,Q wr u -> u.cell? ⟨g0,4,none⟩ = some (.int .i64 x.2.mi) from fun u hu=>hd0 u hu 4 _ (by rfl))
      have CE0_5:=Hd (show ∀ u,Q wr u -> u.cell? ⟨g0,5,none⟩ = some (.int .i64 x.2.xi) from fun u hu=>hd0 u hu 5 _ (by rfl))
      have CE0_6:=Hd (show ∀ u,Q wr u -> u.cell? ⟨g0,6,none⟩ = some (.int .i64 x.2.mf) from fun u hu=>hd0 u hu 6 _ (by rfl))
      have CE0_7:=Hd (show ∀ u,Q wr u -> u.cell? ⟨g0,7,none⟩ = some (.int .i64 x.2.xf) from fun u hu=>hd0 u hu 7 _ (by rfl))
      rw [hL0] at HP0 HPl0
      rw [hM0] at HS0 HSl0
      have HL0:=Hd hL0
      have HM0:=Hd hM0
      clear hx hh hok0 hd0 hg0 hpl0 hsl0 hL0 hM0
      obtain ⟨y,hy⟩:∃ x,LL[1]? = some x:=⟨_,List.getElem?_eq_getElem (by have:=HN.out;omega)⟩
      obtain ⟨h2,hh2⟩:∃ h,hs'[1]? = some h:=⟨_,List.getElem?_eq_getElem (by have:=HSK.out;omega)⟩
      have hcc1:=HC.out 1 h2 y hh2 hy
      have hok1:=(HO.out h2 (List.mem_of_getElem? hh2)).1
      obtain ⟨g1,cap1,hvv,_,hg1,_,_,hd1⟩:=HOH.out.cellOf HSK.out hh2
      cases hvv
      obtain ⟨pa1,pc1,sa1,sc1,P1,S1,nb1⟩:=h2
      simp only at hcc1
      obtain ⟨rfl,rfl,rfl⟩:=hcc1
      have HXX1:=Hd hy
      have HP1:=Hd (show Pc.New wr w2.heap.size (.slice pa1 (prP y.1).length pc1) (prP y.1) from hok1.1.q hq)
      have HS1:=Hd (show Pc.New wr w2.heap.size (.slice sa1 (suP y.1).length sc1) (suP y.1) from hok1.2.q hq)
      have hd1:=fun (u:World) (hu:Q wr u) (j:Nat) (yv:Value) (hj:(Hm.cells ⟨pa1,pc1,sa1,sc1,prP y.1,suP y.1,y.2⟩)[j]? = some yv)=>(World.cell?_of_block (w:=wa) ((Q.trans hq hu).block hg1)).trans (hd1 j yv hj)
      have hpl1:=Nat.le_trans (prP_le y.1) (HPL.out y (List.mem_of_getElem? hy))
      have hsl1:=Nat.le_trans (suP_le y.1) (HPL.out y (List.mem_of_getElem? hy))
      have HPl1:=Hd hpl1
      have HSl1:=Hd hsl1
      obtain ⟨L1,hL1⟩:∃ L,(prP y.1).length = L:=⟨_,rfl⟩
      obtain ⟨M1,hM1⟩:∃ L,(suP y.1).length = L:=⟨_,rfl⟩
      have CE1_0:=Hd (show ∀ u,Q wr u -> u.cell? ⟨g0,8,none⟩ = some (.slice pa1 L1 pc1) from fun u hu=>hd1 u hu 0 _ (by rw [<- hL1];rfl))
      have CE1_1:=Hd (show ∀ u,Q wr u -> u.cell? ⟨g0,9,none⟩ = some (.slice sa1 M1 sc1) from fun u hu=>hd1 u hu 1 _ (by rw [<- hM1];rfl))
      have CE1_2:=Hd (show ∀ u,Q wr u -> u.cell? ⟨g0,10,none⟩ = some (.int .i64 y.2.p) from fun u hu=>hd1 u hu 2 _ (by rfl))
      have CE1_3:=Hd (show ∀ u,Q wr u -> u.cell? ⟨g0,11,none⟩ = some (.int .i64 y.2.s) from fun u hu=>hd1 u hu 3 _ (by rfl))
      have CE1_4:=Hd (show ∀ u,Q wr u -> u.cell? ⟨g0,12,none⟩ = some (.int .i64 y.2.mi) from fun u hu=>hd1 u hu 4 _ (by rfl))
      have CE1_5:=Hd (show ∀ u,Q wr u -> u.cell? ⟨g0,13,none⟩ = some (.int .i64 y.2.xi) from fun u hu=>hd1 u hu 5 _ (by rfl))
      have CE1_6:=Hd (show ∀ u,Q wr u -> u.cell? ⟨g0,14,none⟩ = some (.int .i64 y.2.mf) from fun u hu=>hd1 u hu 6 _ (by rfl))
      have CE1_7:=Hd (show ∀ u,Q wr u -> u.cell? ⟨g0,15,none⟩ = some (.int .i64 y.2.xf) from fun u hu=>hd1 u hu 7 _ (by rfl))
      rw [hL1] at HP1 HPl1
      rw [hM1] at HS1 HSl1
      have HL1:=Hd hL1
      have HM1:=Hd hM1
      clear hy hh2 hok1 hd1 hg1 hpl1 hsl1 hL1 hM1
      have HLL0:=Hd (show LL = [x,y] from two_of HN.out HXX0.out HXX1.out)
      refine wp_region_held_drew (S:=fun u=>Q wr u) (by kernel_rfl) (by exact (Q.refl wr).drew) (fun hHeld=>?_)
      have hS:Q wr wr.drew:=hHeld
      clear hHeld
      have hq:Q wr wr.drew:=(Q.refl _).drew
      clear hq
      generalize wr.drew = yR2x0 at *
      refine tk 0 ?_
      try simp only [Act.put,sA,sB,sC]
      refine tk 1 ?_
      try simp only [Act.put,sA,sB,sC]
      refine tk 2 ?_ (hy:=fun uz hSw=>by (try dsimp only at hSw);have k0:=CE0_0.out uz hSw;have k1:=CE0_1.out uz hSw;have k2:=CE0_2.out uz hSw;have k3:=CE0_3.out uz hSw;have k4:=CE0_4.out uz hSw;have k5:=CE0_5.out uz hSw;have k6:=CE0_6.out uz hSw;have k7:=CE0_7.out uz hSw;have m0:=CE1_0.out uz hSw;have m1:=CE1_1.out uz hSw;have m2:=CE1_2.out uz hSw;have m3:=CE1_3.out uz hSw;have m4:=CE1_4.out uz hSw;have m5:=CE1_5.out uz hSw;have m6:=CE1_6.out uz hSw;have m7:=CE1_7.out uz hSw;go_simp;try with_reducible rfl)
      try simp only [Act.put,sA,sB,sC]
      refine tk 3 ?_
      try simp only [Act.put,sA,sB,sC]
      refine tk 4 ?_
      try simp only [Act.put,sA,sB,sC]
      refine tk 5 ?_
      try simp only [Act.put,sA,sB,sC]
      refine tk 6 ?_
      try simp only [Act.put,sA,sB,sC]
      refine tk 7 ?_
      try simp only [Act.put,sA,sB,sC]
      refine tk 8 ?_ (hy:=fun uz hSw=>by (try dsimp only at hSw);have k0:=CE0_0.out uz hSw;have k1:=CE0_1.out uz hSw;have k2:=CE0_2.out uz hSw;have k3:=CE0_3.out uz hSw;have k4:=CE0_4.out uz hSw;have k5:=CE0_5.out uz hSw;have k6:=CE0_6.out uz hSw;have k7:=CE0_7.out uz hSw;have m0:=CE1_0.out uz hSw;have m1:=CE1_1.out uz hSw;have m2:=CE1_2.out uz hSw;have m3:=CE1_3.out uz hSw;have m4:=CE1_4.out uz hSw;have m5:=CE1_5.out uz hSw;have m6:=CE1_6.out uz hSw;have m7:=CE1_7.out uz hSw;go_simp;try with_reducible rfl)
      try simp only [Act.put,sA,sB,sC]
      refine wpAnyH_ready (rs:=[9,10]) (by kernel_rfl) (by simp) ?_
      refine (AllReadyH.cons rfl (fun K hK=>?_) (AllReadyH.cons rfl (fun K hK=>?_) AllReadyH.nil))
      ·go_simp
       have hq:=(Q.refl yR2x0).alloc (.cells #[.slice none 0 0,.slice none 0 0,.int .i64 0,.int .i64 0,.int .i64 0,.int .i64 0,.int .i64 0,.int .i64 0] 210)
       have HB9:=Hd (Bk.new yR2x0 210 [.slice none 0 0,.slice none 0 0,.int .i64 0,.int .i64 0,.int .i64 0,.int .i64 0,.int .i64 0,.int .i64 0])
       have HW_b9:=Hd (Q.le hS)
       have hS2:=Q.trans hS hq
       refine hK.out _ _ (by exact hS2) (fun hHeld=>?_)
       clear hK K hHeld hS hq
       have hS:=hS2
       clear hS2
       generalize yR2x0.alloc (.cells #[.slice none 0 0,.slice none 0 0,.int .i64 0,.int .i64 0,.int .i64 0,.int .i64 0,.int .i64 0,.int .i64 0] 210) = yR2x10 at *
       generalize yR2x0.heap.size = b9 at *
       try simp only [Act.put,sA,sB,sC]
       refine wpAnyH_ready (rs:=[10]) (by kernel_rfl) (by simp) ?_
       refine ar fun K hK=>?_
       go_simp
       have hq:=(Q.refl yR2x10).alloc (.cells #[.slice none 0 0,.slice none 0 0,.int .i64 0,.int .i64 0,.int .i64 0,.int .i64 0,.int .i64 0,.int .i64 0] 210)
       have HB10:=Hd (Bk.new yR2x10 210 [.slice none 0 0,.slice none 0 0,.int .i64 0,.int .i64 0,.int .i64 0,.int .i64 0,.int .i64 0,.int .i64 0])
       have HW_b10:=Hd (Q.le hS)
       have HN_b9_b10:=Hd (Nat.ne_of_lt HB9.out.lt)
       have HN_b10_b9:=Hd (Nat.ne_of_gt HB9.out.lt)
       have HB9:=Hd (Bk.q HB9.out hq)
       have hS2:=Q.trans hS hq
       refine hK.out _ _ (by exact hS2) (fun hHeld=>?_)
       clear hK K hHeld hS hq
       have hS:=hS2
       clear hS2
       generalize yR2x10.alloc (.cells #[.slice none 0 0,.slice none 0 0,.int .i64 0,.int .i64 0,.int .i64 0,.int .i64 0,.int .i64 0,.int .i64 0] 210) = yR2x11 at *
       generalize yR2x10.heap.size = b10 at *
       try simp only [Act.put,sA,sB,sC]
       refine wpAnyH_ready (rs:=[11]) (by kernel_rfl) (by simp) ?_
       refine ar fun K hK=>?_
       have HNE:=Hd (show b9 ≠ b10 by first | exact HN_b9_b10.out | exact HN_b10_b9.out)
       have HNE2:=Hd (show b10 ≠ b9 by first | exact HN_b9_b10.out | exact HN_b10_b9.out)
       have b0:=HB9.out.cell 0 rfl
       have f0:=HB9.out.free 0
       have b1:=HB9.out.cell 1 rfl
       have f1:=HB9.out.free 1
       have b2:=HB9.out.cell 2 rfl
       have f2:=HB9.out.free 2
       have b3:=HB9.out.cell 3 rfl
       have f3:=HB9.out.free 3
       have b4:=HB9.out.cell 4 rfl
       have f4:=HB9.out.free 4
       have b5:=HB9.out.cell 5 rfl
       have f5:=HB9.out.free 5
       have b6:=HB9.out.cell 6 rfl
       have f6:=HB9.out.free 6
       have b7:=HB9.out.cell 7 rfl
       have f7:=HB9.out.free 7
       go_simp
       have hS2:=(Q.setCell (Q.setCell (Q.setCell (Q.setCell (Q.setCell (Q.setCell (Q.setCell (Q.setCell hS (ad:=⟨b9,0,none⟩) HW_b9.out (.slice pa0 L0 pc0)) (ad:=⟨b9,1,none⟩) HW_b9.out (.slice sa0 M0 sc0)) (ad:=⟨b9,2,none⟩) HW_b9.out (.int .i64 x.2.p)) (ad:=⟨b9,3,none⟩) HW_b9.out (.int .i64 x.2.s)) (ad:=⟨b9,4,none⟩) HW_b9.out (.int .i64 x.2.mi)) (ad:=⟨b9,5,none⟩) HW_b9.out (.int .i64 x.2.xi)) (ad:=⟨b9,6,none⟩) HW_b9.out (.int .i64 x.2.mf)) (ad:=⟨b9,7,none⟩) HW_b9.out (.int .i64 x.2.xf))
       replace HB9:=Hd ((((((((HB9.out.set 0 (.slice pa0 L0 pc0)).set 1 (.slice sa0 M0 sc0)).set 2 (.int .i64 x.2.p)).set 3 (.int .i64 x.2.s)).set 4 (.int .i64 x.2.mi)).set 5 (.int .i64 x.2.xi)).set 6 (.int .i64 x.2.mf)).set 7 (.int .i64 x.2.xf))
       replace HB10:=Hd (Bk.past (Bk.past (Bk.past (Bk.past (Bk.past (Bk.past (Bk.past (Bk.past HB10.out (g:=b9) (i:=0) HNE.out (.slice pa0 L0 pc0)) (g:=b9) (i:=1) HNE.out (.slice sa0 M0 sc0)) (g:=b9) (i:=2) HNE.out (.int .i64 x.2.p)) (g:=b9) (i:=3) HNE.out (.int .i64 x.2.s)) (g:=b9) (i:=4) HNE.out (.int .i64 x.2.mi)) (g:=b9) (i:=5) HNE.out (.int .i64 x.2.xi)) (g:=b9) (i:=6) HNE.out (.int .i64 x.2.mf)) (g:=b9) (i:=7) HNE.out (.int .i64 x.2.xf))
       refine hK.out _ _ (by exact hS2) (fun hHeld=>?_)
       clear hK K hHeld hS
       have hS:=hS2
       clear hS2 b0 f0 b1 f1 b2 f2 b3 f3 b4 f4 b5 f5 b6 f6 b7 f7
       generalize ((((((((yR2x11.setCell ⟨b9,0,none⟩ (.slice pa0 L0 pc0)).setCell ⟨b9,1,none⟩ (.slice sa0 M0 sc0)).setCell ⟨b9,2,none⟩ (.int .i64 x.2.p)).setCell ⟨b9,3,none⟩ (.int .i64 x.2.s)).setCell ⟨b9,4,none⟩ (.int .i64 x.2.mi)).setCell ⟨b9,5,none⟩ (.int .i64 x.2.xi)).setCell ⟨b9,6,none⟩ (.int .i64 x.2.mf)).setCell ⟨b9,7,none⟩ (.int .i64 x.2.xf)) = yR2x12 at *
       try simp only [Act.put,sA,sB,sC]
       refine wpAnyH_ready (rs:=[12]) (by kernel_rfl) (by simp) ?_
       refine ar fun K hK=>?_
       have b0:=HB10.out.cell 0 rfl
       have f0:=HB10.out.free 0
       have b1:=HB10.out.cell 1 rfl
       have f1:=HB10.out.free 1
       have b2:=HB10.out.cell 2 rfl
       have f2:=HB10.out.free 2
       have b3:=HB10.out.cell 3 rfl
       have f3:=HB10.out.free 3
       have b4:=HB10.out.cell 4 rfl
       have f4:=HB10.out.free 4
       have b5:=HB10.out.cell 5 rfl
       have f5:=HB10.out.free 5
       have b6:=HB10.out.cell 6 rfl
       have f6:=HB10.out.free 6
       have b7:=HB10.out.cell 7 rfl
       have f7:=HB10.out.free 7
       go_simp
       have hS2:=(Q.setCell (Q.setCell (Q.setCell (Q.setCell (Q.setCell (Q.setCell (Q.setCell (Q.setCell hS (ad:=⟨b10,0,none⟩) HW_b10.out (.slice pa1 L1 pc1)) (ad:=⟨b10,1,none⟩) HW_b10.out (.slice sa1 M1 sc1)) (ad:=⟨b10,2,none⟩) HW_b10.out (.int .i64 y.2.p)) (ad:=⟨b10,3,none⟩) HW_b10.out (.int .i64 y.2.s)) (ad:=⟨b10,4,none⟩) HW_b10.out (.int .i64 y.2.mi)) (ad:=⟨b10,5,none⟩) HW_b10.out (.int .i64 y.2.xi)) (ad:=⟨b10,6,none⟩) HW_b10.out (.int .i64 y.2.mf)) (ad:=⟨b10,7,none⟩) HW_b10.out (.int .i64 y.2.xf))
       replace HB10:=Hd ((((((((HB10.out.set 0 (.slice pa1 L1 pc1)).set 1 (.slice sa1 M1 sc1)).set 2 (.int .i64 y.2.p)).set 3 (.int .i64 y.2.s)).set 4 (.int .i64 y.2.mi)).set 5 (.int .i64 y.2.xi)).set 6 (.int .i64 y.2.mf)).set 7 (.int .i64 y.2.xf))
       replace HB9:=Hd (Bk.past (Bk.past (Bk.past (Bk.past (Bk.past (Bk.past (Bk.past (Bk.past HB9.out (g:=b10) (i:=0) HNE2.out (.slice pa1 L1 pc1)) (g:=b10) (i:=1) HNE2.out (.slice sa1 M1 sc1)) (g:=b10) (i:=2) HNE2.out (.int .i64 y.2.p)) (g:=b10) (i:=3) HNE2.out (.int .i64 y.2.s)) (g:=b10) (i:=4) HNE2.out (.int .i64 y.2.mi)) (g:=b10) (i:=5) HNE2.out (.int .i64 y.2.xi)) (g:=b10) (i:=6) HNE2.out (.int .i64 y.2.mf)) (g:=b10) (i:=7) HNE2.out (.int .i64 y.2.xf))
       refine hK.out _ _ (by exact hS2) (fun hHeld=>?_)
       clear hK K hHeld hS
       have hS:=hS2
       clear hS2 b0 f0 b1 f1 b2 f2 b3 f3 b4 f4 b5 f5 b6 f6 b7 f7
       generalize ((((((((yR2x12.setCell ⟨b10,0,none⟩ (.slice pa1 L1 pc1)).setCell ⟨b10,1,none⟩ (.slice sa1 M1 sc1)).setCell ⟨b10,2,none⟩ (.int .i64 y.2.p)).setCell ⟨b10,3,none⟩ (.int .i64 y.2.s)).setCell ⟨b10,4,none⟩ (.int .i64 y.2.mi)).setCell ⟨b10,5,none⟩ (.int .i64 y.2.xi)).setCell ⟨b10,6,none⟩ (.int .i64 y.2.mf)).setCell ⟨b10,7,none⟩ (.int .i64 y.2.xf)) = yR2x13 at *
       try simp only [Act.put,sA,sB,sC]
       refine wpAnyH_done (by kernel_rfl) ?_ _
       obtain ⟨z,hz⟩:∃ z,z = yR2x13.alloc (.cells #[.slice pa0 L0 pc0,.slice sa0 M0 sc0,.slice pa1 L1 pc1,.slice sa1 M1 sc1,.int .i64 x.2.p,.int .i64 x.2.s,.int .i64 x.2.mi,.int .i64 x.2.mf,.int .i64 x.2.xf] 120):=⟨_,rfl⟩
       have HBZ:=Hd (show Bk z yR2x13.heap.size 120 [.slice pa0 L0 pc0,.slice sa0 M0 sc0,.slice pa1 L1 pc1,.slice sa1 M1 sc1,.int .i64 x.2.p,.int .i64 x.2.s,.int .i64 x.2.mi,.int .i64 x.2.mf,.int .i64 x.2.xf] by rw [hz];exact Bk.new _ _ _)
       have hqz:Q yR2x13 z:=by rw [hz];exact (Q.refl _).alloc _
       have HQz:=Hd (Q.trans hS hqz)
       have HB9z:=Hd (HB9.out.q hqz)
       have HBw:=Hd ((HBR.out.q hq).q HQz.out)
       have p0:=HB9.out.cell 0 rfl
       have q0:=HB10.out.cell 0 rfl
       have p1:=HB9.out.cell 1 rfl
       have q1:=HB10.out.cell 1 rfl
       have p2:=HB9.out.cell 2 rfl
       have q2:=HB10.out.cell 2 rfl
       have p3:=HB9.out.cell 3 rfl
       have q3:=HB10.out.cell 3 rfl
       have p4:=HB9.out.cell 4 rfl
       have q4:=HB10.out.cell 4 rfl
       have p5:=HB9.out.cell 5 rfl
       have q5:=HB10.out.cell 5 rfl
       have p6:=HB9.out.cell 6 rfl
       have q6:=HB10.out.cell 6 rfl
       have p7:=HB9.out.cell 7 rfl
       have q7:=HB10.out.cell 7 rfl
       have HZW:=Hd (Q.le hS)
       go_upto_region 16 with fail
       rw [<- hz]
       clear hz hqz hS HB9 HB10 p0 q0 p1 q1 p2 q2 p3 q3 p4 q4 p5 q5 p6 q6 p7 q7
       obtain ⟨bz,hbz⟩:∃ b,b = yR2x13.heap.size:=⟨_,rfl⟩
       rw [<- hbz] at HBZ HZW |-
       clear hbz
       obtain ⟨z3,hz3⟩:∃ z3,z3 = z:=⟨_,rfl⟩
       subst hz3
       have hbwz:w.heap.size ≠ bz:=by
        have h1:=HBR.out.lt
        have h2:=HZW.out
        have h3:=hq.le
        omega
       have HBZ3:=HBZ
       have HBw3:=HBw
       have HQ3:=HQz
       have HN3:=Hd (HP1.out.q HQz.out)
       have HN4:=Hd (HS1.out.q HQz.out)
       have p0:=HBZ3.out.cell 0 rfl
       have q0:=HBw3.out.cell 0 rfl
       have f0:=HBw3.out.free 0
       have p1:=HBZ3.out.cell 1 rfl
       have q1:=HBw3.out.cell 1 rfl
       have f1:=HBw3.out.free 1
       have p2:=HBZ3.out.cell 2 rfl
       have q2:=HBw3.out.cell 2 rfl
       have f2:=HBw3.out.free 2
       have p3:=HBZ3.out.cell 3 rfl
       have q3:=HBw3.out.cell 3 rfl
       have f3:=HBw3.out.free 3
       have p4:=HBZ3.out.cell 4 rfl
       have q4:=HBw3.out.cell 4 rfl
       have f4:=HBw3.out.free 4
       have p5:=HBZ3.out.cell 5 rfl
       have q5:=HBw3.out.cell 5 rfl
       have f5:=HBw3.out.free 5
       have p6:=HBZ3.out.cell 6 rfl
       have q6:=HBw3.out.cell 6 rfl
       have f6:=HBw3.out.free 6
       have p7:=HBZ3.out.cell 7 rfl
       have q7:=HBw3.out.cell 7 rfl
       have f7:=HBw3.out.free 7
       have p8:=HBZ3.out.cell 8 rfl
       have q8:=HBw3.out.cell 8 rfl
       have f8:=HBw3.out.free 8
       have HBF:=Hd (((((((((HBw3.out.set 0 (.slice pa0 L0 pc0)).set 1 (.slice sa0 M0 sc0)).set 2 (.slice pa1 L1 pc1)).set 3 (.slice sa1 M1 sc1)).set 4 (.int .i64 x.2.p)).set 5 (.int .i64 x.2.s)).set 6 (.int .i64 x.2.mi)).set 7 (.int .i64 x.2.mf)).set 8 (.int .i64 x.2.xf))
       have HQF:=Hd (Q.setCell (Q.setCell (Q.setCell (Q.setCell (Q.setCell (Q.setCell (Q.setCell (Q.setCell (Q.setCell (HQR.out.trans (Q.trans hq HQ3.out)) (ad:=⟨w.heap.size,0,none⟩) (Nat.le_refl _) (.slice pa0 L0 pc0)) (ad:=⟨w.heap.size,1,none⟩) (Nat.le_refl _) (.slice sa0 M0 sc0)) (ad:=⟨w.heap.size,2,none⟩) (Nat.le_refl _) (.slice pa1 L1 pc1)) (ad:=⟨w.heap.size,3,none⟩) (Nat.le_refl _) (.slice sa1 M1 sc1)) (ad:=⟨w.heap.size,4,none⟩) (Nat.le_refl _) (.int .i64 x.2.p)) (ad:=⟨w.heap.size,5,none⟩) (Nat.le_refl _) (.int .i64 x.2.s)) (ad:=⟨w.heap.size,6,none⟩) (Nat.le_refl _) (.int .i64 x.2.mi)) (ad:=⟨w.heap.size,7,none⟩) (Nat.le_refl _) (.int .i64 x.2.mf)) (ad:=⟨w.heap.size,8,none⟩) (Nat.le_refl _) (.int .i64 x.2.xf))
       have hw2:w.heap.size + 1 <= w2.heap.size:=HB2.out.lt
       have HA1:=Hd (New.past (New.past (New.past (New.past (New.past (New.past (New.past (New.past (New.past (New.past0 (HP0.out.q HQ3.out) hw2) 0 (.slice pa0 L0 pc0)) 1 (.slice sa0 M0 sc0)) 2 (.slice pa1 L1 pc1)) 3 (.slice sa1 M1 sc1)) 4 (.int .i64 x.2.p)) 5 (.int .i64 x.2.s)) 6 (.int .i64 x.2.mi)) 7 (.int .i64 x.2.mf)) 8 (.int .i64 x.2.xf))
       have HA2:=Hd (New.past (New.past (New.past (New.past (New.past (New.past (New.past (New.past (New.past (New.past0 (HS0.out.q HQ3.out) hw2) 0 (.slice pa0 L0 pc0)) 1 (.slice sa0 M0 sc0)) 2 (.slice pa1 L1 pc1)) 3 (.slice sa1 M1 sc1)) 4 (.int .i64 x.2.p)) 5 (.int .i64 x.2.s)) 6 (.int .i64 x.2.mi)) 7 (.int .i64 x.2.mf)) 8 (.int .i64 x.2.xf))
       have HA3:=Hd (New.past (New.past (New.past (New.past (New.past (New.past (New.past (New.past (New.past (New.past0 HN3.out hw2) 0 (.slice pa0 L0 pc0)) 1 (.slice sa0 M0 sc0)) 2 (.slice pa1 L1 pc1)) 3 (.slice sa1 M1 sc1)) 4 (.int .i64 x.2.p)) 5 (.int .i64 x.2.s)) 6 (.int .i64 x.2.mi)) 7 (.int .i64 x.2.mf)) 8 (.int .i64 x.2.xf))
       have HA4:=Hd (New.past (New.past (New.past (New.past (New.past (New.past (New.past (New.past (New.past (New.past0 HN4.out hw2) 0 (.slice pa0 L0 pc0)) 1 (.slice sa0 M0 sc0)) 2 (.slice pa1 L1 pc1)) 3 (.slice sa1 M1 sc1)) 4 (.int .i64 x.2.p)) 5 (.int .i64 x.2.s)) 6 (.int .i64 x.2.mi)) 7 (.int .i64 x.2.mf)) 8 (.int .i64 x.2.xf))
       go_wp2_with fail
       refine ret_bk rfl Tryz.underlying120 (by exact infoPt) rfl HBF.out rfl ⟨HQF.out,.inr ⟨HNL.out,_,rfl,?_⟩⟩
       rw [HLL0.out]
       exact ⟨_,_,_,_,rfl,HA1.out.mono (Nat.le_succ _),HA2.out.mono (Nat.le_succ _),HA3.out.mono (Nat.le_succ _),HA4.out.mono (Nat.le_succ _)⟩
      ·go_simp
       have hq:=(Q.refl yR2x0).alloc (.cells #[.slice none 0 0,.slice none 0 0,.int .i64 0,.int .i64 0,.int .i64 0,.int .i64 0,.int .i64 0,.int .i64 0] 210)
       have HB10:=Hd (Bk.new yR2x0 210 [.slice none 0 0,.slice none 0 0,.int .i64 0,.int .i64 0,.int .i64 0,.int .i64 0,.int .i64 0,.int .i64 0])
       have HW_b10:=Hd (Q.le hS)
       have hS2:=Q.trans hS hq
       refine hK.out _ _ (by exact hS2) (fun hHeld=>?_)
       clear hK K hHeld hS hq
       have hS:=hS2
       clear hS2
       generalize yR2x0.alloc (.cells #[.slice none 0 0,.slice none 0 0,.int .i64 0,.int .i64 0,.int .i64 0,.int .i64 0,.int .i64 0,.int .i64 0] 210) = yR2x14 at *
       generalize yR2x0.heap.size = b10 at *
       try simp only [Act.put,sA,sB,sC]
       refine wpAnyH_ready (rs:=[9]) (by kernel_rfl) (by simp) ?_
       refine ar fun K hK=>?_
       go_simp
       have hq:=(Q.refl yR2x14).alloc (.cells #[.slice none 0 0,.slice none 0 0,.int .i64 0,.int .i64 0,.int .i64 0,.int .i64 0,.int .i64 0,.int .i64 0] 210)
       have HB9:=Hd (Bk.new yR2x14 210 [.slice none 0 0,.slice none 0 0,.int .i64 0,.int .i64 0,.int .i64 0,.int .i64 0,.int .i64 0,.int .i64 0])
       have HW_b9:=Hd (Q.le hS)
       have HN_b10_b9:=Hd (Nat.ne_of_lt HB10.out.lt)
       have HN_b9_b10:=Hd (Nat.ne_of_gt HB10.out.lt)
       have HB10:=Hd (Bk.q HB10.out hq)
       have hS2:=Q.trans hS hq
       refine hK.out _ _ (by exact hS2) (fun hHeld=>?_)
       clear hK K hHeld hS hq
       have hS:=hS2
       clear hS2
       generalize yR2x14.alloc (.cells #[.slice none 0 0,.slice none 0 0,.int .i64 0,.int .i64 0,.int .i64 0,.int .i64 0,.int .i64 0,.int .i64 0] 210) = yR2x15 at *
       generalize yR2x14.heap.size = b9 at *
       try simp only [Act.put,sA,sB,sC]
       refine wpAnyH_ready (rs:=[11]) (by kernel_rfl) (by simp) ?_
       refine ar fun K hK=>?_
       have HNE:=Hd (show b9 ≠ b10 by first | exact HN_b9_b10.out | exact HN_b10_b9.out)
       have HNE2:=Hd (show b10 ≠ b9 by first | exact HN_b9_b10.out | exact HN_b10_b9.out)
       have b0:=HB9.out.cell 0 rfl
       have f0:=HB9.out.free 0
       have b1:=HB9.out.cell 1 rfl
       have f1:=HB9.out.free 1
       have b2:=HB9.out.cell 2 rfl
       have f2:=HB9.out.free 2
       have b3:=HB9.out.cell 3 rfl
       have f3:=HB9.out.free 3
       have b4:=HB9.out.cell 4 rfl
       have f4:=HB9.out.free 4
       have b5:=HB9.out.cell 5 rfl
       have f5:=HB9.out.free 5
       have b6:=HB9.out.cell 6 rfl
       have f6:=HB9.out.free 6
       have b7:=HB9.out.cell 7 rfl
       have f7:=HB9.out.free 7
       go_simp
       have hS2:=(Q.setCell (Q.setCell (Q.setCell (Q.setCell (Q.setCell (Q.setCell (Q.setCell (Q.setCell hS (ad:=⟨b9,0,none⟩) HW_b9.out (.slice pa0 L0 pc0)) (ad:=⟨b9,1,none⟩) HW_b9.out (.slice sa0 M0 sc0)) (ad:=⟨b9,2,none⟩) HW_b9.out (.int .i64 x.2.p)) (ad:=⟨b9,3,none⟩) HW_b9.out (.int .i64 x.2.s)) (ad:=⟨b9,4,none⟩) HW_b9.out (.int .i64 x.2.mi)) (ad:=⟨b9,5,none⟩) HW_b9.out (.int .i64 x.2.xi)) (ad:=⟨b9,6,none⟩) HW_b9.out (.int .i64 x.2.mf)) (ad:=⟨b9,7,none⟩) HW_b9.out (.int .i64 x.2.xf))
       replace HB9:=Hd ((((((((HB9.out.set 0 (.slice pa0 L0 pc0)).set 1 (.slice sa0 M0 sc0)).set 2 (.int .i64 x.2.p)).set 3 (.int .i64 x.2.s)).set 4 (.int .i64 x.2.mi)).set 5 (.int .i64 x.2.xi)).set 6 (.int .i64 x.2.mf)).set 7 (.int .i64 x.2.xf))
       replace HB10:=Hd (Bk.past (Bk.past (Bk.past (Bk.past (Bk.past (Bk.past (Bk.past (Bk.past HB10.out (g:=b9) (i:=0) HNE.out (.slice pa0 L0 pc0)) (g:=b9) (i:=1) HNE.out (.slice sa0 M0 sc0)) (g:=b9) (i:=2) HNE.out (.int .i64 x.2.p)) (g:=b9) (i:=3) HNE.out (.int .i64 x.2.s)) (g:=b9) (i:=4) HNE.out (.int .i64 x.2.mi)) (g:=b9) (i:=5) HNE.out (.int .i64 x.2.xi)) (g:=b9) (i:=6) HNE.out (.int .i64 x.2.mf)) (g:=b9) (i:=7) HNE.out (.int .i64 x.2.xf))
       refine hK.out _ _ (by exact hS2) (fun hHeld=>?_)
       clear hK K hHeld hS
       have hS:=hS2
       clear hS2 b0 f0 b1 f1 b2 f2 b3 f3 b4 f4 b5 f5 b6 f6 b7 f7
       generalize ((((((((yR2x15.setCell ⟨b9,0,none⟩ (.slice pa0 L0 pc0)).setCell ⟨b9,1,none⟩ (.slice sa0 M0 sc0)).setCell ⟨b9,2,none⟩ (.int .i64 x.2.p)).setCell ⟨b9,3,none⟩ (.int .i64 x.2.s)).setCell ⟨b9,4,none⟩ (.int .i64 x.2.mi)).setCell ⟨b9,5,none⟩ (.int .i64 x.2.xi)).setCell ⟨b9,6,none⟩ (.int .i64 x.2.mf)).setCell ⟨b9,7,none⟩ (.int .i64 x.2.xf)) = yR2x16 at *
       try simp only [Act.put,sA,sB,sC]
       refine wpAnyH_ready (rs:=[12]) (by kernel_rfl) (by simp) ?_
       refine ar fun K hK=>?_
       have b0:=HB10.out.cell 0 rfl
       have f0:=HB10.out.free 0
       have b1:=HB10.out.cell 1 rfl
       have f1:=HB10.out.free 1
       have b2:=HB10.out.cell 2 rfl
       have f2:=HB10.out.free 2
       have b3:=HB10.out.cell 3 rfl
       have f3:=HB10.out.free 3
       have b4:=HB10.out.cell 4 rfl
       have f4:=HB10.out.free 4
       have b5:=HB10.out.cell 5 rfl
       have f5:=HB10.out.free 5
       have b6:=HB10.out.cell 6 rfl
       have f6:=HB10.out.free 6
       have b7:=HB10.out.cell 7 rfl
       have f7:=HB10.out.free 7
       go_simp
       have hS2:=(Q.setCell (Q.setCell (Q.setCell (Q.setCell (Q.setCell (Q.setCell (Q.setCell (Q.setCell hS (ad:=⟨b10,0,none⟩) HW_b10.out (.slice pa1 L1 pc1)) (ad:=⟨b10,1,none⟩) HW_b10.out (.slice sa1 M1 sc1)) (ad:=⟨b10,2,none⟩) HW_b10.out (.int .i64 y.2.p)) (ad:=⟨b10,3,none⟩) HW_b10.out (.int .i64 y.2.s)) (ad:=⟨b10,4,none⟩) HW_b10.out (.int .i64 y.2.mi)) (ad:=⟨b10,5,none⟩) HW_b10.out (.int .i64 y.2.xi)) (ad:=⟨b10,6,none⟩) HW_b10.out (.int .i64 y.2.mf)) (ad:=⟨b10,7,none⟩) HW_b10.out (.int .i64 y.2.xf))
       replace HB10:=Hd ((((((((HB10.out.set 0 (.slice pa1 L1 pc1)).set 1 (.slice sa1 M1 sc1)).set 2 (.int .i64 y.2.p)).set 3 (.int .i64 y.2.s)).set 4 (.int .i64 y.2.mi)).set 5 (.int .i64 y.2.xi)).set 6 (.int .i64 y.2.mf)).set 7 (.int .i64 y.2.xf))
       replace HB9:=Hd (Bk.past (Bk.past (Bk.past (Bk.past (Bk.past (Bk.past (Bk.past (Bk.past HB9.out (g:=b10) (i:=0) HNE2.out (.slice pa1 L1 pc1)) (g:=b10) (i:=1) HNE2.out (.slice sa1 M1 sc1)) (g:=b10) (i:=2) HNE2.out (.int .i64 y.2.p)) (g:=b10) (i:=3) HNE2.out (.int .i64 y.2.s)) (g:=b10) (i:=4) HNE2.out (.int .i64 y.2.mi)) (g:=b10) (i:=5) HNE2.out (.int .i64 y.2.xi)) (g:=b10) (i:=6) HNE2.out (.int .i64 y.2.mf)) (g:=b10) (i:=7) HNE2.out (.int .i64 y.2.xf))
       refine hK.out _ _ (by exact hS2) (fun hHeld=>?_)
       clear hK K hHeld hS
       have hS:=hS2
       clear hS2 b0 f0 b1 f1 b2 f2 b3 f3 b4 f4 b5 f5 b6 f6 b7 f7
       generalize ((((((((yR2x16.setCell ⟨b10,0,none⟩ (.slice pa1 L1 pc1)).setCell ⟨b10,1,none⟩ (.slice sa1 M1 sc1)).setCell ⟨b10,2,none⟩ (.int .i64 y.2.p)).setCell ⟨b10,3,none⟩ (.int .i64 y.2.s)).setCell ⟨b10,4,none⟩ (.int .i64 y.2.mi)).setCell ⟨b10,5,none⟩ (.int .i64 y.2.xi)).setCell ⟨b10,6,none⟩ (.int .i64 y.2.mf)).setCell ⟨b10,7,none⟩ (.int .i64 y.2.xf)) = yR2x17 at *
       try simp only [Act.put,sA,sB,sC]
       refine wpAnyH_done (by kernel_rfl) ?_ _
       obtain ⟨z,hz⟩:∃ z,z = yR2x17.alloc (.cells #[.slice pa0 L0 pc0,.slice sa0 M0 sc0,.slice pa1 L1 pc1,.slice sa1 M1 sc1,.int .i64 x.2.p,.int .i64 x.2.s,.int .i64 x.2.mi,.int .i64 x.2.mf,.int .i64 x.2.xf] 120):=⟨_,rfl⟩
       have HBZ:=Hd (show Bk z yR2x17.heap.size 120 [.slice pa0 L0 pc0,.slice sa0 M0 sc0,.slice pa1 L1 pc1,.slice sa1 M1 sc1,.int .i64 x.2.p,.int .i64 x.2.s,.int .i64 x.2.mi,.int .i64 x.2.mf,.int .i64 x.2.xf] by rw [hz];exact Bk.new _ _ _)
       have hqz:Q yR2x17 z:=by rw [hz];exact (Q.refl _).alloc _
       have HQz:=Hd (Q.trans hS hqz)
       have HB9z:=Hd (HB9.out.q hqz)
       have HBw:=Hd ((HBR.out.q hq).q HQz.out)
       have p0:=HB9.out.cell 0 rfl
       have q0:=HB10.out.cell 0 rfl
       have p1:=HB9.out.cell 1 rfl
       have q1:=HB10.out.cell 1 rfl
       have p2:=HB9.out.cell 2 rfl
       have q2:=HB10.out.cell 2 rfl
       have p3:=HB9.out.cell 3 rfl
       have q3:=HB10.out.cell 3 rfl
       have p4:=HB9.out.cell 4 rfl
       have q4:=HB10.out.cell 4 rfl
       have p5:=HB9.out.cell 5 rfl
       have q5:=HB10.out.cell 5 rfl
       have p6:=HB9.out.cell 6 rfl
       have q6:=HB10.out.cell 6 rfl
       have p7:=HB9.out.cell 7 rfl
       have q7:=HB10.out.cell 7 rfl
       have HZW:=Hd (Q.le hS)
       go_upto_region 16 with fail
       rw [<- hz]
       clear hz hqz hS HB9 HB10 p0 q0 p1 q1 p2 q2 p3 q3 p4 q4 p5 q5 p6 q6 p7 q7
       obtain ⟨bz,hbz⟩:∃ b,b = yR2x17.heap.size:=⟨_,rfl⟩
       rw [<- hbz] at HBZ HZW |-
       clear hbz
       obtain ⟨z3,hz3⟩:∃ z3,z3 = z:=⟨_,rfl⟩
       subst hz3
       have hbwz:w.heap.size ≠ bz:=by
        have h1:=HBR.out.lt
        have h2:=HZW.out
        have h3:=hq.le
        omega
       have HBZ3:=HBZ
       have HBw3:=HBw
       have HQ3:=HQz
       have HN3:=Hd (HP1.out.q HQz.out)
       have HN4:=Hd (HS1.out.q HQz.out)
       have p0:=HBZ3.out.cell 0 rfl
       have q0:=HBw3.out.cell 0 rfl
       have f0:=HBw3.out.free 0
       have p1:=HBZ3.out.cell 1 rfl
       have q1:=HBw3.out.cell 1 rfl
       have f1:=HBw3.out.free 1
       have p2:=HBZ3.out.cell 2 rfl
       have q2:=HBw3.out.cell 2 rfl
       have f2:=HBw3.out.free 2
       have p3:=HBZ3.out.cell 3 rfl
       have q3:=HBw3.out.cell 3 rfl
       have f3:=HBw3.out.free 3
       have p4:=HBZ3.out.cell 4 rfl
       have q4:=HBw3.out.cell 4 rfl
       have f4:=HBw3.out.free 4
       have p5:=HBZ3.out.cell 5 rfl
       have q5:=HBw3.out.cell 5 rfl
       have f5:=HBw3.out.free 5
       have p6:=HBZ3.out.cell 6 rfl
       have q6:=HBw3.out.cell 6 rfl
       have f6:=HBw3.out.free 6
       have p7:=HBZ3.out.cell 7 rfl
       have q7:=HBw3.out.cell 7 rfl
       have f7:=HBw3.out.free 7
       have p8:=HBZ3.out.cell 8 rfl
       have q8:=HBw3.out.cell 8 rfl
       have f8:=HBw3.out.free 8
       have HBF:=Hd (((((((((HBw3.out.set 0 (.slice pa0 L0 pc0)).set 1 (.slice sa0 M0 sc0)).set 2 (.slice pa1 L1 pc1)).set 3 (.slice sa1 M1 sc1)).set 4 (.int .i64 x.2.p)).set 5 (.int .i64 x.2.s)).set 6 (.int .i64 x.2.mi)).set 7 (.int .i64 x.2.mf)).set 8 (.int .i64 x.2.xf))
       have HQF:=Hd (Q.setCell (Q.setCell (Q.setCell (Q.setCell (Q.setCell (Q.setCell (Q.setCell (Q.setCell (Q.setCell (HQR.out.trans (Q.trans hq HQ3.out)) (ad:=⟨w.heap.size,0,none⟩) (Nat.le_refl _) (.slice pa0 L0 pc0)) (ad:=⟨w.heap.size,1,none⟩) (Nat.le_refl _) (.slice sa0 M0 sc0)) (ad:=⟨w.heap.size,2,none⟩) (Nat.le_refl _) (.slice pa1 L1 pc1)) (ad:=⟨w.heap.size,3,none⟩) (Nat.le_refl _) (.slice sa1 M1 sc1)) (ad:=⟨w.heap.size,4,none⟩) (Nat.le_refl _) (.int .i64 x.2.p)) (ad:=⟨w.heap.size,5,none⟩) (Nat.le_refl _) (.int .i64 x.2.s)) (ad:=⟨w.heap.size,6,none⟩) (Nat.le_refl _) (.int .i64 x.2.mi)) (ad:=⟨w.heap.size,7,none⟩) (Nat.le_refl _) (.int .i64 x.2.mf)) (ad:=⟨w.heap.size,8,none⟩) (Nat.le_refl _) (.int .i64 x.2.xf))
       have hw2:w.heap.size + 1 <= w2.heap.size:=HB2.out.lt
       have HA1:=Hd (New.past (New.past (New.past (New.past (New.past (New.past (New.past (New.past (New.past (New.past0 (HP0.out.q HQ3.out) hw2) 0 (.slice pa0 L0 pc0)) 1 (.slice sa0 M0 sc0)) 2 (.slice pa1 L1 pc1)) 3 (.slice sa1 M1 sc1)) 4 (.int .i64 x.2.p)) 5 (.int .i64 x.2.s)) 6 (.int .i64 x.2.mi)) 7 (.int .i64 x.2.mf)) 8 (.int .i64 x.2.xf))
       have HA2:=Hd (New.past (New.past (New.past (New.past (New.past (New.past (New.past (New.past (New.past (New.past0 (HS0.out.q HQ3.out) hw2) 0 (.slice pa0 L0 pc0)) 1 (.slice sa0 M0 sc0)) 2 (.slice pa1 L1 pc1)) 3 (.slice sa1 M1 sc1)) 4 (.int .i64 x.2.p)) 5 (.int .i64 x.2.s)) 6 (.int .i64 x.2.mi)) 7 (.int .i64 x.2.mf)) 8 (.int .i64 x.2.xf))
       have HA3:=Hd (New.past (New.past (New.past (New.past (New.past (New.past (New.past (New.past (New.past (New.past0 HN3.out hw2) 0 (.slice pa0 L0 pc0)) 1 (.slice sa0 M0 sc0)) 2 (.slice pa1 L1 pc1)) 3 (.slice sa1 M1 sc1)) 4 (.int .i64 x.2.p)) 5 (.int .i64 x.2.s)) 6 (.int .i64 x.2.mi)) 7 (.int .i64 x.2.mf)) 8 (.int .i64 x.2.xf))
       have HA4:=Hd (New.past (New.past (New.past (New.past (New.past (New.past (New.past (New.past (New.past (New.past0 HN4.out hw2) 0 (.slice pa0 L0 pc0)) 1 (.slice sa0 M0 sc0)) 2 (.slice pa1 L1 pc1)) 3 (.slice sa1 M1 sc1)) 4 (.int .i64 x.2.p)) 5 (.int .i64 x.2.s)) 6 (.int .i64 x.2.mi)) 7 (.int .i64 x.2.mf)) 8 (.int .i64 x.2.xf))
       go_wp2_with fail
       refine ret_bk rfl Tryz.underlying120 (by exact infoPt) rfl HBF.out rfl ⟨HQF.out,.inr ⟨HNL.out,_,rfl,?_⟩⟩
       rw [HLL0.out]
       exact ⟨_,_,_,_,rfl,HA1.out.mono (Nat.le_succ _),HA2.out.mono (Nat.le_succ _),HA3.out.mono (Nat.le_succ _),HA4.out.mono (Nat.le_succ _)⟩
end Pg
end
end Go.Proofs.YtdjhkbholijnmaaGreatDoor
