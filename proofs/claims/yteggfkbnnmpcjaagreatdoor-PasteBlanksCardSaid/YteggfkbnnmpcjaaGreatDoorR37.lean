/- Halves, as the program tells them: the document's numbers are the program's. Our own work. (and more) -/
import Derived.Test.YteggfkbnnmpcjaaGreatDoorR35
import Derived.Test.YteggfkbnnmpcjaaGreatDoorR24
import Derived.Test.YteggfkbnnmpcjaaGreatDoorR33
set_option linter.all false
set_option maxRecDepth 100000
set_option maxHeartbeats 8000000
namespace Go.Proofs.YteggfkbnnmpcjaaGreatDoor
section
open Go.RowKit
namespace Pg
open Pt Um
def okPr (cs:List Int):Bool:=match num cs,prN (cs.flatMap encL) with
 | some n,some b=>n.pr == b.p && n.se == b.s && n.mi == b.mi && n.mf == b.mf && n.xf == b.xf && decide (b.xi <= 64) && decide (b.xf <= 64) && !n.long
 | _,_=>false
theorem okPr_of {cs:List Int} (h:okPr cs = true):∃ (n:Nm) (b:Nb),num cs = some n /\ prN (cs.flatMap encL) = some b /\ n.long = false /\ ¬ b.long /\ n.pr = b.p /\ n.se = b.s /\ n.mi = b.mi /\ n.mf = b.mf /\ n.xf = b.xf:=by
 unfold okPr at h;split at h
 ·rename_i n b h1 h2
  simp only [Bool.and_eq_true,beq_iff_eq,decide_eq_true_eq,Bool.not_eq_true'] at h;obtain ⟨⟨⟨⟨⟨⟨⟨e1,e2⟩,e3⟩,e4⟩,e5⟩,e6⟩,e7⟩,e8⟩:=h;exact ⟨n,b,h1,h2,e8,by unfold Nb.long;omega,e1,e2,e3,e4,e5⟩
 ·cases h
theorem ah_app {f:Int × Int -> Bool} {a b:List (Int × Int)} (ha:∀ x ∈ a,f x = true) (hb:b = [] \/ ∃ x r,b = x :: r /\ f x = false):ah f (a ++ b) = a.length:=by
 have h:=(Pt.tw_all (f:=f) (b:=b) ha).1;unfold ah;rw [h];rcases hb with rfl | ⟨x,r,rfl,hx⟩
 ·simp
 ·simp [List.takeWhile_cons,hx]
theorem ah_hv {P N S:List (Int × Int)} (h:Hv P N S) (hN:1 <= N.length):ah ntN (P ++ N ++ S) = P.length /\ (P ++ N ++ S).drop P.length = N ++ S /\ ah isN (N ++ S) = N.length:=by
 have hNn:∀ x ∈ N,isN x = true:=fun x hx=>by unfold isN;rw [h.n x hx];rfl
 refine ⟨?_,by rw [List.append_assoc,List.drop_left],?_⟩
 ·rw [List.append_assoc]
  refine ah_app (fun x hx=>by unfold ntN;rw [okT_isN h.p x hx];rfl) (.inr ?_);cases N with
  | nil=>simp at hN
  | cons x r=>exact ⟨x,r ++ S,rfl,by unfold ntN;rw [hNn x List.mem_cons_self];rfl⟩
 ·refine ah_app hNn ?_
  cases S with
  | nil=>exact .inl rfl
  | cons x r=>exact .inr ⟨x,r,rfl,okT_isN h.s x List.mem_cons_self⟩
theorem hv_kinds {P N S:List (Int × Int)} (h:Hv P N S):∀ x ∈ P ++ N ++ S,x.1 <= 4:=by
 intro x hx;rcases List.mem_append.1 hx with hx | hx
 ·rcases List.mem_append.1 hx with hx | hx
  ·have:=h.p x hx;omega
  ·have:=h.n x hx;omega
 ·have:=h.s x hx;omega
theorem encL_ne {c:Int} (h:vld c = true):encL c ≠ []:=by unfold encL;exact encB_some h
theorem out_vld (cs:List Int):∀ q p l q' p',Vl cs -> outS q p cs = some (l,q',p') -> ∀ x ∈ l,vld x.2 = true:=by
 induction cs with
 | nil=>intro q p l q' p' hv h;simp [outS] at h;obtain ⟨rfl,_⟩:=h;simp
 | cons c r ih =>
  intro q p l q' p' hv h;have hr:Vl r:=fun d hd=>hv d (List.mem_cons_of_mem _ hd);have h39:vld 39 = true:=(vld_iff _).2 (by omega);have hc:=hv c List.mem_cons_self;rw [outS_cons] at h;split at h
  ·split at h
   ·obtain ⟨⟨m,a,b⟩,hm,he⟩:=Option.map_eq_some_iff.1 h
    simp only [Prod.mk.injEq] at he;obtain ⟨rfl,rfl,rfl⟩:=he;intro x hx;rcases List.mem_cons.1 hx with rfl | hx
    ·exact h39
    ·exact ih _ _ _ _ _ hr hm x hx
   ·exact ih _ _ _ _ _ hr h
  ·split at h
   ·obtain ⟨⟨m,a,b⟩,hm,he⟩:=Option.map_eq_some_iff.1 h
    simp only [Prod.mk.injEq] at he;obtain ⟨rfl,rfl,rfl⟩:=he;intro x hx;rcases List.mem_cons.1 hx with rfl | hx
    ·exact hc
    ·exact ih _ _ _ _ _ hr hm x hx
   ·split at h
    ·cases h
    ·obtain ⟨⟨m,a,b⟩,hm,he⟩:=Option.map_eq_some_iff.1 h
     simp only [Prod.mk.injEq] at he;obtain ⟨rfl,rfl,rfl⟩:=he;intro x hx;rcases List.mem_cons.1 hx with rfl | hx
     ·exact hc
     ·exact ih _ _ _ _ _ hr hm x hx
theorem hok_of {P N S:List (Int × Int)} (hch:∀ x ∈ P ++ N ++ S,vld x.2 = true) (h:Hv P N S) (hN:1 <= N.length) (h250:N.length <= 250) (nb:Nb) (hnb:prN ((N.map (·.2)).flatMap encL) = some nb) :
  HalfOk (P ++ N ++ S) nb /\ prP (P ++ N ++ S) = joinT [] P /\ suP (P ++ N ++ S) = joinT [] S:=by
 obtain ⟨e1,e2,e3⟩:=ah_hv h hN;have e4:(P ++ N ++ S).drop (P.length + N.length) = S:=by
  rw [<- List.drop_drop,e2,List.drop_left]
 refine ⟨⟨hv_kinds h,fun x hx=>encL_ne (hch x hx),?_,?_,?_,?_⟩,?_,?_⟩
 ·rw [e1];simp;omega
 ·rw [e1,e2,e3,e4,List.any_eq_false]
  intro x hx;rw [okT_isN h.s x hx];simp
 ·rw [e1,e2,e3,List.take_left,<- hnb,List.flatMap_map]
 ·rw [e1,e2,e3];exact h250
 ·unfold prP;rw [e1,List.append_assoc,List.take_left]
 ·unfold suP;rw [e1,e2,e3,e4]
theorem split_one {P N S:List (Int × Int)} (h:Hv P N S):splitD (P ++ N ++ S) = [P ++ N ++ S]:=by
 refine splitD_end _ ?_;have:=ah_app (f:=ntD) (a:=P ++ N ++ S) (b:=[]) (fun x hx=>by unfold ntD;rw [h.noD x hx];rfl) (.inl rfl);rwa [List.append_nil] at this
theorem split_two {P N S P' N' S':List (Int × Int)} (h:Hv P N S) (h':Hv P' N' S'):splitD (P ++ N ++ S ++ (5,59) :: (P' ++ N' ++ S')) = [P ++ N ++ S,P' ++ N' ++ S']:=by
 have e:=ah_app (f:=ntD) (a:=P ++ N ++ S) (b:=(5,59) :: (P' ++ N' ++ S')) (fun x hx=>by unfold ntD;rw [h.noD x hx];rfl) (.inr ⟨_,_,rfl,rfl⟩);have hc:=splitD_cut (P ++ N ++ S ++ (5,59) :: (P' ++ N' ++ S')) (by rw [e];simp);rw [e,List.take_left,<- List.drop_drop,List.drop_left] at hc;rw [hc];simp only [List.drop_succ_cons,List.drop_zero,split_one h']
theorem parse1 {cs:List Int} (hv:Vl cs) (hz:cs.length <= 10000) {P N S:List (Int × Int)} {c:Bool} (ho:outS false false cs = some (P ++ N ++ S,c,c)) (h:Hv P N S) (hN:1 <= N.length) (h250:N.length <= 250) (hp:okPr (N.map (·.2)) = true) (w:World) :
  Calls Tryz.prog 55 #[.string ⟨(joinL cs).toArray⟩] w fun e w'=>∃ v,e = .returned (.tuple #[v,.int .i64 0]) /\ PV w' w.heap.size v (parseC cs).1 /\ Q w w':=by
 obtain ⟨n,b,h1,h2,h3,h4,h5,h6,h7,h8,h9⟩:=okPr_of hp;obtain ⟨k1,k2,k3⟩:=hok_of (out_vld _ _ _ _ _ _ hv ho) h hN h250 b h2;have ht:tkn cs = some (P ++ N ++ S):=by
  unfold tkn;rw [tok_out,ho];simp
 have hpc:(parseC cs).1 = patOf [(P ++ N ++ S,b)]:=by
  unfold parseC;rw [ht];simp only [parse_one h hN h1 h3,patOf,k2,k3,mkP,h5,h6,h7,h8,h9]
 rw [hpc];refine parse_ok _ w _ fun u hu=>?_;refine (read_any ⟨(joinL cs).toArray⟩ u ?_ (okL_join cs hv) (P ++ N ++ S) ?_ [(P ++ N ++ S,b)] (split_one h) (fun x hx=>by rw [List.mem_singleton.1 hx];exact k1) (by simp) (by simp)).mono ?_
 ·have:=joinL_length cs
  simp only [ByteArray.size,List.size_toArray];omega
 ·rw [allL_join cs hv];exact tok_q _ _ _ _ ht
 ·rintro e w' ⟨hq,⟨⟨x,hx,hxl⟩,_⟩ | ⟨_,v,hv,hpv⟩⟩
  ·rw [List.mem_singleton.1 hx] at hxl;exact absurd hxl h4
  ·exact ⟨hq,v,hv,hpv⟩
theorem parse2 {cs:List Int} (hv:Vl cs) (hz:cs.length <= 10000) {P N S P' N' S':List (Int × Int)} {c:Bool} (ho:outS false false cs = some (P ++ N ++ S ++ (5,59) :: (P' ++ N' ++ S'),c,c)) (h:Hv P N S) (hN:1 <= N.length) (h250:N.length <= 250) (hp:okPr (N.map (·.2)) = true)
  (h':Hv P' N' S') (hN':1 <= N'.length) (h250':N'.length <= 250) (hp':okPr (N'.map (·.2)) = true) (w:World) :
  Calls Tryz.prog 55 #[.string ⟨(joinL cs).toArray⟩] w fun e w'=>∃ v,e = .returned (.tuple #[v,.int .i64 0]) /\ PV w' w.heap.size v (parseC cs).1 /\ Q w w':=by
 obtain ⟨n,b,h1,h2,h3,h4,h5,h6,h7,h8,h9⟩:=okPr_of hp;obtain ⟨n',b',h1',h2',h3',h4',_⟩:=okPr_of hp';have hch:=out_vld _ _ _ _ _ _ hv ho;obtain ⟨k1,k2,k3⟩:=hok_of (fun x hx=>hch x (List.mem_append_left _ hx)) h hN h250 b h2;obtain ⟨k1',k2',k3'⟩:=hok_of (fun x hx=>hch x (List.mem_append_right _ (List.mem_cons_of_mem _ hx))) h' hN' h250' b' h2';have ht:tkn cs = some (P ++ N ++ S ++ (5,59) :: (P' ++ N' ++ S')):=by
  unfold tkn;rw [tok_out,ho];simp
 have hpc:(parseC cs).1 = patOf [(P ++ N ++ S,b),(P' ++ N' ++ S',b')]:=by
  unfold parseC;rw [ht];simp only [parse_two h hN h1 h3 h' hN' h1' h3',patOf,k2,k3,k2',k3',mkP,h5,h6,h7,h8,h9]
 rw [hpc];refine parse_ok _ w _ fun u hu=>?_;refine (read_any ⟨(joinL cs).toArray⟩ u ?_ (okL_join cs hv) _ ?_ [(P ++ N ++ S,b),(P' ++ N' ++ S',b')] (split_two h h') (fun x hx=>by
  rcases List.mem_cons.1 hx with rfl | hx
  ·exact k1
  ·rw [List.mem_singleton.1 hx];exact k1') (by simp) (by simp)).mono ?_
 ·have:=joinL_length cs
  simp only [ByteArray.size,List.size_toArray];omega
 ·rw [allL_join cs hv];exact tok_q _ _ _ _ ht
 ·rintro e w' ⟨hq,⟨⟨x,hx,hxl⟩,_⟩ | ⟨_,v,hv,hpv⟩⟩
  ·simp at hx
   rcases hx with rfl | rfl
   ·exact absurd hxl h4
   ·exact absurd hxl h4'
  ·exact ⟨hq,v,hv,hpv⟩
end Pg
end
section
open Go.RowKit
namespace Pr
open Pt Um
theorem kind4 {c:Int} (h:kindC c = 4):∃ b:UInt8,encL c = [b] /\ ((b.toNat:Nat):Int) = c:=by
 have hc:c = 35 \/ c = 48 \/ c = 44 \/ c = 46:=by
  unfold kindC at h;split at h
  ·cases h
  ·split at h
   ·cases h
   ·split at h
    ·cases h
    ·split at h
     ·assumption
     ·split at h
      ·cases h
      ·split at h <;> cases h
 rcases hc with rfl | rfl | rfl | rfl
 ·exact ⟨35,by decide +kernel,by decide⟩
 ·exact ⟨48,by decide +kernel,by decide⟩
 ·exact ⟨44,by decide +kernel,by decide⟩
 ·exact ⟨46,by decide +kernel,by decide⟩
theorem sgnOk_cons {x:Int × Int} {l:List (Int × Int)} (h:x.1 = 4 -> ∃ b:UInt8,encL x.2 = [b] /\ ((b.toNat:Nat):Int) = x.2) (hl:sgnOk l):sgnOk (x :: l):=by
 intro y hy;rcases List.mem_cons.1 hy with rfl | hy
 ·exact h
 ·exact hl y hy
theorem tok_ok (cs:List Int):∀ (q p:Bool) (l:List (Int × Int)),tokS q p cs = some l -> sgnOk l /\ l.length <= cs.length:=by
 induction cs with
 | nil =>
  intro q p l h;simp only [tokS] at h;split at h
  ·cases h
  ·cases h;exact ⟨fun x hx=>absurd hx List.not_mem_nil,Nat.le_refl _⟩
 | cons c r ih =>
  intro q p l h;rw [tokS_cons] at h;split at h
  ·split at h
   ·obtain ⟨m,hm,rfl⟩:=Option.map_eq_some_iff.1 h
    obtain ⟨h1,h2⟩:=ih _ _ _ hm;exact ⟨sgnOk_cons (fun h=>by cases h) h1,by simp;omega⟩
   ·obtain ⟨h1,h2⟩:=ih _ _ _ h
    exact ⟨h1,by simp;omega⟩
  ·split at h
   ·obtain ⟨m,hm,rfl⟩:=Option.map_eq_some_iff.1 h
    obtain ⟨h1,h2⟩:=ih _ _ _ hm;exact ⟨sgnOk_cons (fun h=>by cases h) h1,by simp;omega⟩
   ·split at h
    ·cases h
    ·obtain ⟨m,hm,rfl⟩:=Option.map_eq_some_iff.1 h
     obtain ⟨h1,h2⟩:=ih _ _ _ hm;exact ⟨sgnOk_cons kind4 h1,by simp;omega⟩
theorem Parse_all (s:ByteArray) (w:World) (hs:s.size <= 100000) :
  Calls Tryz.prog 85 #[.string s] w fun e w'=>∃ v,e = .returned (.tuple #[v,.int .i64 (parseC (allL s.data.toList)).2]) /\ PV w' v (parseC (allL s.data.toList)).1 /\ Q w w':=by
 cases h:tkn (allL s.data.toList) with
 | none =>
  have e:parseC (allL s.data.toList) = (pat0,2):=by unfold parseC;rw [h]
  rw [e];exact Parse_no s w hs h
 | some l =>
  have e:parseC (allL s.data.toList) = parseT l:=by unfold parseC;rw [h]
  rw [e];obtain ⟨h1,h2⟩:=tok_ok _ _ _ _ h;have hml:=marks_length s.data.toList;rw [size_list] at hml;have hcl:(allL s.data.toList).length <= 100000:=by unfold allL;simp;omega
  exact Parse_any s l w hs h (Nat.le_trans h2 hcl) h1
end Pr
end
end Go.Proofs.YteggfkbnnmpcjaaGreatDoor
