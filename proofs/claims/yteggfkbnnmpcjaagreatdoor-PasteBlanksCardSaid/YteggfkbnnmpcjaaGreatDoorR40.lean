/- The document's own answers on locales: the parts of an affix. (and more) -/
import Derived.Test.YteggfkbnnmpcjaaGreatDoorR39
set_option linter.all false
set_option maxRecDepth 100000
set_option maxHeartbeats 8000000
namespace Go.Proofs.YteggfkbnnmpcjaaGreatDoor
section
open Go.RowKit
namespace Ro
open Um Cm Gm Lo
theorem elT:Pb.El 166 133:=⟨by kernel_rfl,Tryz.underlying133⟩
theorem bs_cat (s t:List UInt8):Lm.bs s ++ Lm.bs t = Lm.bs (s ++ t):=by
 apply ByteArray.ext;apply Array.ext';simp [Lm.bs]
theorem refO_at (r:Lm.Rec) (A:List Pc.E) (k:Nat) (hk:k < A.length):refO r (A.take (k + 1)) [] = if (A.getD k (0,[])).1 = 3 then ((refO r (A.take k) []).1 ++ tx1 (refO r (A.take k) []).2 ++ [((true,[]):Pb.E)],[]) else ((refO r (A.take k) []).1,(refO r (A.take k) []).2 ++ Lm.ptx r (A.getD k (0,[]))):=by
 rw [List.take_succ_eq_append_getElem hk,refO_snoc,List.getD_eq_getElem?_getD,List.getElem?_eq_getElem hk];rfl
theorem rparts_any (r:Lm.Rec) (X:Pt.Pat) (a b c d v:Value) (A:List Pc.E) (w:World) (hL:LL w X a b c d) (hv:Pc.LstP w v A) (hA:A.length <= 10) (hk:∀ x ∈ A,(0 <= x.1 /\ x.1 <= 3)) (hz:(Lm.atx r A).length <= 64) :
  Calls Tryz.prog 134 #[lV r X a b c d,v] w fun e w'=>∃ u,e = .returned u /\ Pb.LstP w' u (refP r A []) /\ Q w w':=by
 have HT:=Hd (fun (k:Nat) (h:k < A.length) u y (hy:Pc.LstP u y [A.getD k (0,[])])=>text_any r y [A.getD k (0,[])] u hy (by simp) (fun x hx=>hk x (by
   rw [List.mem_singleton.1 hx,List.getD_eq_getElem?_getD,List.getElem?_eq_getElem h];exact List.getElem_mem _)) (by
   have hm:A.getD k (0,[]) ∈ A:=by rw [List.getD_eq_getElem?_getD,List.getElem?_eq_getElem h];exact List.getElem_mem _
   have h2:=(List.sublist_flatten_of_mem (List.mem_map_of_mem (f:=Lm.ptx r) hm)).length_le;unfold Lm.atx at hz |-;rw [List.flatMap_def] at hz;simp only [List.flatMap_cons,List.flatMap_nil,List.append_nil];omega))
 have HZ:=Hd (fun (k:Nat) (h:k < A.length)=>(show (Lm.bs (Lm.atx r [A.getD k (0,[])])).size <= 64 by
   have hm:A.getD k (0,[]) ∈ A:=by rw [List.getD_eq_getElem?_getD,List.getElem?_eq_getElem h];exact List.getElem_mem _
   have h2:=(List.sublist_flatten_of_mem (List.mem_map_of_mem (f:=Lm.ptx r) hm)).length_le;rw [Lm.bs_size];unfold Lm.atx at hz |-;rw [List.flatMap_def] at hz;simp only [List.flatMap_cons,List.flatMap_nil,List.append_nil];omega))
 have HO:=Hd (refO_at r A);have HS:=Hd (fun k=>(show (refO r (A.take k) []).2.length <= 64 by
  have h1:=refO_len r (A.take k) [];have h2:=(atx_le r A k).1;simp only [List.length_nil] at h1;omega))
 have HFW:=Hd (fun k=>(show (refO r (A.take k) []).1.length <= 20 by
  have h1:=refO_few r (A.take k) [];have h2:(A.take k).length <= A.length:=by rw [List.length_take];omega
  omega))
 have HE:=Hd (show refP r A [] = (refO r (A.take A.length) []).1 ++ tx1 (refO r (A.take A.length) []).2 by rw [List.take_length];exact refO_all r A []);have HV:=Hd hv;obtain ⟨n,hn⟩:∃ n,n = A.length:=⟨_,rfl⟩;rw [<- hn] at HT HZ HO HE hA;have HN:=Hd hn;have h00:refO r (A.take 0) [] = ([],[]):=rfl;obtain ⟨va,vc,rfl,hc1,hc2⟩:=hv.form0 hn.symm;generalize refP r A [] = RP at *;obtain ⟨F,hF⟩:∃ F:Nat -> List Pb.E × List UInt8,∀ k,F k = refO r (A.take k) []:=⟨fun k=>refO r (A.take k) [],fun _=>rfl⟩;simp only [<- hF] at HO HS HFW HE h00;clear hF hv hk hz hn;obtain ⟨a1,a2,rfl⟩:=hL.1.shape;obtain ⟨b1,b2,rfl⟩:=hL.2.1.shape;obtain ⟨c1,c2,rfl⟩:=hL.2.2.1.shape;obtain ⟨d1,d2,rfl⟩:=hL.2.2.2.shape;clear hL;generalize X.pre.length = n1 at *;generalize X.suf.length = n2 at *;generalize X.npre.length = n3 at *;generalize X.nsuf.length = n4 at *;unfold lV;unfold recV at HT;generalize X.pr = p0 at *;generalize X.se = p1 at *;generalize X.mi = p2 at *;generalize X.mf = p3 at *;generalize X.xf = p4 at *;generalize Lm.bs r.nam = s0 at *;generalize Lm.bs r.pat = s1 at *;generalize Lm.bs r.sys = s2 at *;generalize Lm.bs r.dec = s3 at *;generalize Lm.bs r.grp = s4 at *;generalize Lm.bs r.min = s5 at *;generalize Lm.bs r.per = s6 at *;generalize Lm.bs r.cur = s7 at *;obtain ⟨z,hz⟩:∃ z,z = w.alloc (.cells #[.string s0,.string s1,.string s2,.string s3,.string s4,.string s5,.string s6,.string s7,.slice a1 n1 a2,.slice b1 n2 b2,.slice c1 n3 c2,.slice d1 n4 d2,.int .i64 p0,.int .i64 p1,.int .i64 p2,.int .i64 p3,.int .i64 p4] 31):=⟨_,rfl⟩;have HQZ:=Hd (show Q w z by rw [hz];exact (Q.refl w).alloc _);have HBZ:=Hd (show Bk z w.heap.size 31 [.string s0,.string s1,.string s2,.string s3,.string s4,.string s5,.string s6,.string s7,.slice a1 n1 a2,.slice b1 n2 b2,.slice c1 n3 c2,.slice d1 n4 d2,.int .i64 p0,.int .i64 p1,.int .i64 p2,.int .i64 p3,.int .i64 p4] by rw [hz];exact Bk.new _ _ _);go_enter Tryz.func134,Tryz.ntmps134
 go_upto_region 1 with fail
 rw [<- hz];clear hz;generalize w.heap.size = bz at *;go_wp2_with fail
 go_loopw [5,6,7] (fun vo vs vi wr=>∃ k:Nat,vi = .int .i64 k /\ k <= n /\ (∃ S:ByteArray,vs = .string S /\ Hid (S = Lm.bs (F k).2)) /\ Hid (Pb.OwnE 166 wr z.heap.size vo (F k).1) /\ Q z wr) (fun _ _ i _=>n - (intOf i).toNat)
 case atStart=>exact ⟨0,rfl,by omega,⟨_,rfl,Hd (by rw [h00];rfl)⟩,Hd (by rw [h00];exact Pb.OwnE.nil _ _ _),Q.refl _⟩
 case round =>
  obtain ⟨k,rfl,hk,⟨S,rfl,HSK⟩,HOK,hq⟩:=hrel;clear h00;have hss:S.size <= 64:=by rw [HSK.out,Lm.bs_size];exact HS.out k
  have HQ:=Hd hq;have hqle:=hq.le;obtain ⟨oa,oc,hvo⟩:=HOK.out.lst.shape;obtain ⟨f,hf⟩:∃ f,f = (F k).1.length:=⟨_,rfl⟩;have hf20:f <= 20:=by rw [hf];exact HFW.out k
  rw [<- hf] at hvo;subst hvo;have HFL:=Hd hf;clear hf;by_cases hlt:k < n
  ·have HKB:=Hd hlt
   have hlti:(k:Int) < (n:Int):=by omega
   obtain ⟨g,off,cap,hvv,hg,_,_,c1,c2⟩:=(HV.out.q (HQZ.out.trans hq)).cellOf HN.out.symm hlt;cases hvv;have HX:=Hd (show Pc.LstP w (.slice (some ⟨g,off + k * 2,none⟩) 1 (vc - k)) [A.getD k (0,[])] from by
    have h1:=HV.out.drop HN.out.symm hlt;have hl:k < A.length:=by have:=HN.out;omega
    have h2:=h1.take 1 (by rw [List.length_drop];omega);rw [List.drop_eq_getElem_cons hl] at h2;rw [List.getD_eq_getElem?_getD,List.getElem?_eq_getElem hl];exact h2)
   have HCU:=Hd (fun u (hu:Q wr u)=>(show u.cell? ⟨g,off + k * 2,none⟩ = some (.int .i64 (A.getD k (0,[])).1) from (World.cell?_of_block (hu.block hg)).trans c1));have HTK:=Hd (fun u (hq:Q w u)=>HT.out k hlt u _ (HX.out.q hq));have hat:=HO.out k hlt;have hzz:=HZ.out k hlt;generalize A.getD k (0,[]) = x at *;clear c2 hq;by_cases h3:x.1 = 3
   ·rw [if_pos h3] at hat
    rw [h3] at c1;have HAT:=Hd hat;clear hat h3;by_cases he:(F k).2 = []
    ·have hS:S = ⟨#[]⟩:=by rw [HSK.out,he];rfl
     subst hS;have HE0:=Hd he;clear he;go_wp2_with (at_builtin;refine Pb.push elT HOK.out rfl _ _ rfl true ⟨#[]⟩ (by rfl) (by rfl) (by rw [<- HFL.out];omega) hqle ?_)
     intro v' w3 ho3 hg3 hat3;have HQ3:=Hd (HQ.out.grown hg3 (fun j h=>(HOK.out.lt j h).1));have HO3:=Hd (show Pb.OwnE 166 w3 z.heap.size v' (F (k + 1)).1 by rw [HAT.out,HE0.out];simpa [tx1] using ho3);have HS3:=Hd (show (⟨#[]⟩:ByteArray) = Lm.bs (F (k + 1)).2 by rw [HAT.out];rfl);clear ho3 hg3 hat3;go_wp2_with fail
     exact ⟨⟨k + 1,by go_num,by have:=HKB.out;omega,⟨_,rfl,HS3⟩,HO3,HQ3.out⟩,by simp [intOf];have:=HKB.out;omega⟩
    ·have hne:S.toList.isEmpty = false:=by
      have h1:=bs_ne he;rw [HSK.out];unfold Lm.bs;cases h2:(⟨((F k).2).toArray⟩:ByteArray).toList with
      | nil=>rw [h2] at h1;simp at h1
      | cons y ys=>rfl
     have HE1:=Hd he;clear he;go_wp2_with (at_builtin;refine Pb.push elT HOK.out rfl _ _ rfl false S (by rfl) (by rfl) (by rw [<- HFL.out];omega) hqle ?_)
     intro v' w3 ho3 hg3 hat3;have HQ3:=Hd (HQ.out.grown hg3 (fun j h=>(HOK.out.lt j h).1));have HO3:=Hd ho3;have hle3:=HQ3.out.le;clear ho3 hg3 hat3;go_wp2_with (at_builtin;refine Pb.push elT HO3.out rfl _ _ rfl true ⟨#[]⟩ (by rfl) (by rfl) (by rw [List.length_append,<- HFL.out];simp;omega) hle3 ?_)
     intro v2' w4 ho4 hg4 hat4;have HQ4:=Hd (HQ3.out.grown hg4 (fun j h=>(HO3.out.lt j h).1));have HO4:=Hd (show Pb.OwnE 166 w4 z.heap.size v2' (F (k + 1)).1 by
      rw [HAT.out];have h1:tx1 (F k).2 = [((false,S.data.toList):Pb.E)]:=by
       rw [HSK.out,Lm.bs_list];unfold tx1;rw [if_neg (by simpa using HE1.out)]
      rw [h1];simpa using ho4)
     have HS4:=Hd (show (⟨#[]⟩:ByteArray) = Lm.bs (F (k + 1)).2 by rw [HAT.out];rfl);clear ho4 hg4 hat4;go_wp2_with fail
     exact ⟨⟨k + 1,by go_num,by have:=HKB.out;omega,⟨_,rfl,HS4⟩,HO4,HQ4.out⟩,by simp [intOf];have:=HKB.out;omega⟩
   ·rw [if_neg h3] at hat
    have HAT:=Hd hat;have hkind:(x.1 == 3) = false:=by rw [beq_eq_false_iff_ne];exact h3
    obtain ⟨xk,hxk⟩:∃ y,y = x.1:=⟨_,rfl⟩;rw [<- hxk] at c1 h3 hkind;simp only [<- hxk] at HCU;clear hat hxk;have hqz:=HQZ.out.trans HQ.out;have hw:IntKind.i64.wrap ((k:Int) + 1) = (k:Int) + 1:=by rw [IntKind.wrap_i64];omega
    have hzz2:¬ 9223372036854775807 < S.size + (Lm.bs (Lm.atx r [x])).size:=by omega
    have hw0:(0:Int) <= (k:Int) + 1:=by omega
    have hw1:(k:Int) + 1 <= (vc:Int):=by omega
    have hw2:((k:Int) + 1).toNat = k + 1:=by omega
    have hw4:¬ vc = k:=by omega
    go_upto_region 7 with fail
    refine wp_region_held_drew (S:=fun u=>Q wr u) (by kernel_rfl) (by exact (Q.refl wr).drew) (fun hHeld=>?_);have hS:Q wr wr.drew:=hHeld;clear hHeld;have hq:Q wr wr.drew:=(Q.refl _).drew;clear hq;generalize wr.drew = yR1x0 at *;change wpAnyH _ _ _ _ _ _ #[ff,ff,ff,ff,ff,ff,ff,ff,ff,ff,ff] _ _;refine tk 0 (by simp only [gA,gB,gC];rfl) (by first | kernel_rfl | rfl) (fun uz _=>by go_simp;try with_reducible rfl) pq hS ?_;try simp only [Act.put,sA,sB,sC]
    refine tk 1 (by simp only [gA,gB,gC];rfl) (by first | kernel_rfl | rfl) (fun uz _=>by go_simp;try with_reducible rfl) pq hS ?_;try simp only [Act.put,sA,sB,sC]
    refine tk 2 (by simp only [gA,gB,gC];rfl) (by first | kernel_rfl | rfl) (fun uz hSw=>by (try dsimp only at hSw);have kb:=HBZ.out.q (HQ.out.trans hSw);have q0:=kb.cell 0 rfl;have q1:=kb.cell 1 rfl;have q2:=kb.cell 2 rfl;have q3:=kb.cell 3 rfl;have q4:=kb.cell 4 rfl;have q5:=kb.cell 5 rfl;have q6:=kb.cell 6 rfl;have q7:=kb.cell 7 rfl;clear kb;go_simp;try with_reducible rfl) pq hS ?_;try simp only [Act.put,sA,sB,sC]
    refine tk 3 (by simp only [gA,gB,gC];rfl) (by first | kernel_rfl | rfl) (fun uz _=>by go_simp;try with_reducible rfl) pq hS ?_;try simp only [Act.put,sA,sB,sC]
    refine tk 4 (by simp only [gA,gB,gC];rfl) (by first | kernel_rfl | rfl) (fun uz _=>by go_simp;try with_reducible rfl) pq hS ?_;try simp only [Act.put,sA,sB,sC]
    refine tk 5 (by simp only [gA,gB,gC];rfl) (by first | kernel_rfl | rfl) (fun uz _=>by go_simp;try with_reducible rfl) pq hS ?_;try simp only [Act.put,sA,sB,sC]
    refine tk 6 (by simp only [gA,gB,gC];rfl) (by first | kernel_rfl | rfl) (fun uz _=>by go_simp;try with_reducible rfl) pq hS ?_;try simp only [Act.put,sA,sB,sC]
    refine tk 7 (by simp only [gA,gB,gC];rfl) (by first | kernel_rfl | rfl) (fun uz _=>by go_simp;try with_reducible rfl) pq hS ?_;try simp only [Act.put,sA,sB,sC]
    refine wpAnyH_ready (rs:=[8]) (by kernel_rfl) (by simp) ?_;refine ar rfl fun K hK=>?_;go_simp
    refine (HTK.out _ (HQZ.out.trans (HQ.out.trans hS))).mono ?_;rintro e yR1x9 ⟨rfl,hq⟩;try (go_wp2_with fail)
    have hS2:=Q.trans hS hq;refine hK.out _ _ (by exact hS2) (fun hHeld=>?_);clear hK K hHeld hS hq;have hS:=hS2;clear hS2;try simp only [Act.put,sA,sB,sC]
    refine tk 9 (by simp only [gA,gB,gC];rfl) (by first | kernel_rfl | rfl) (fun uz _=>by go_simp;try with_reducible rfl) pq hS ?_;try simp only [Act.put,sA,sB,sC]
    refine tk 10 (by simp only [gA,gB,gC];rfl) (by first | kernel_rfl | rfl) (fun uz _=>by go_simp;try with_reducible rfl) pq hS ?_;try simp only [Act.put,sA,sB,sC]
    refine wpAnyH_done (by kernel_rfl) ?_ _;have HQ5:=Hd (HQ.out.trans hS);have HO5:=Hd (HOK.out.q hS);clear hS;go_wp2_with fail
    exact ⟨⟨k + 1,by go_num,by have:=HKB.out;omega,⟨_,rfl,Hd (by rw [HAT.out,HSK.out,bs_cat];simp [Lm.atx])⟩,Hd (by rw [HAT.out];exact HO5.out),HQ5.out⟩,by simp [intOf];have:=HKB.out;omega⟩
  ·have hnlt:¬ (k:Int) < (n:Int):=by omega
   obtain rfl:k = n:=by omega
   have HQF:=Hd (HQZ.out.trans hq);clear hq hlt;by_cases he:(F k).2 = []
   ·have hS:S = ⟨#[]⟩:=by rw [HSK.out,he];rfl
    subst hS;have HR:=Hd (show Pb.LstP wr (.slice oa f oc) RP by
     rw [HE.out,he];have h:=HOK.out.lst;simpa [tx1] using h)
    clear he;go_wp2_with fail
    go_ret
    exact ⟨_,rfl,HR.out,HQF.out⟩
   ·have hne:S.toList.isEmpty = false:=by
      have h1:=bs_ne he;rw [HSK.out];unfold Lm.bs;cases h2:(⟨((F k).2).toArray⟩:ByteArray).toList with
      | nil=>rw [h2] at h1;simp at h1
      | cons y ys=>rfl
    have HE1:=Hd he;clear he;go_wp2_with (at_builtin;refine Pb.push elT HOK.out rfl _ _ rfl false S (by rfl) (by rfl) (by rw [<- HFL.out];omega) hqle ?_)
    intro v' w3 ho3 hg3 hat3;have HQ3:=Hd (HQZ.out.trans (HQ.out.grown hg3 (fun j h=>(HOK.out.lt j h).1)));have HR:=Hd (show Pb.LstP w3 v' RP by
     rw [HE.out];have h1:tx1 (F k).2 = [((false,S.data.toList):Pb.E)]:=by
      rw [HSK.out,Lm.bs_list];unfold tx1;rw [if_neg (by simpa using HE1.out)]
     rw [h1];exact ho3.lst)
    clear ho3 hg3 hat3;go_wp2_with fail
    go_ret
    exact ⟨_,rfl,HR.out,HQ3.out⟩
end Ro
end
section
open Go.RowKit
namespace It
open Um Im Lo Ro
theorem rparts_any (r:Lm.Rec) (X:Pt.Pat) (a b c d v:Value) (l:List Pb.E) (w:World) (hL:Ro.LL w X a b c d) (hv:Pb.LstP w v l) (hl:l.length <= 100000) :
  Calls Tryz.prog 81 #[lV r X a b c d,v] w fun e w'=>∃ x,e = .returned x /\ OwnI 132 w' w.heap.size x (affI r l) /\ Q w w':=by
 obtain ⟨n,hn⟩:∃ n,n = l.length:=⟨_,rfl⟩;obtain ⟨va,vc,rfl,hnc,hcm⟩:=hv.form0 hn.symm;have HV:=Hd (fun u (q:Q w u) k (h:k < n)=>(hv.q q).cellOf hn.symm h);have HT:=Hd (fun k (h:k < n)=>affI_take r l k (by omega));have HTL:=Hd (fun k (h:k <= n)=>show (affI r (l.take k)).length = k by rw [affI_len,List.length_take];omega);have HE:=Hd (show affI r (l.take n) = affI r l by rw [hn,List.take_length]);have HAF:=Hd (show ∀ k,affE r (l.getD k (false,[])) = if (l.getD k (false,[])).1 = true then (1,Lm.bs r.min,-1) else (0,Lm.bs (l.getD k (false,[])).2,-1) from fun _=>rfl)
 unfold maxLen at hcm;rw [<- hn] at hl;obtain ⟨a1,a2,rfl⟩:=hL.1.shape;obtain ⟨b1,b2,rfl⟩:=hL.2.1.shape;obtain ⟨c1,c2,rfl⟩:=hL.2.2.1.shape;obtain ⟨d1,d2,rfl⟩:=hL.2.2.2.shape;clear hL hv hn;unfold lV;generalize X.pre.length = n1 at *;generalize X.suf.length = n2 at *;generalize X.npre.length = n3 at *;generalize X.nsuf.length = n4 at *;generalize X.pr = p0 at *;generalize X.se = p1 at *;generalize X.mi = p2 at *;generalize X.mf = p3 at *;generalize X.xf = p4 at *;generalize Lm.bs r.nam = s0 at *;generalize Lm.bs r.pat = s1 at *;generalize Lm.bs r.sys = s2 at *;generalize Lm.bs r.dec = s3 at *;generalize Lm.bs r.grp = s4 at *;generalize Lm.bs r.min = s5 at *;generalize Lm.bs r.per = s6 at *;generalize Lm.bs r.cur = s7 at *;obtain ⟨z,hz⟩:∃ z,z = w.alloc (.cells #[.string s0,.string s1,.string s2,.string s3,.string s4,.string s5,.string s6,.string s7,.slice a1 n1 a2,.slice b1 n2 b2,.slice c1 n3 c2,.slice d1 n4 d2,.int .i64 p0,.int .i64 p1,.int .i64 p2,.int .i64 p3,.int .i64 p4] 31):=⟨_,rfl⟩;have HQZ:=Hd (show Q w z by rw [hz];exact (Q.refl w).alloc _);have HBZ:=Hd (show Bk z w.heap.size 31 [.string s0,.string s1,.string s2,.string s3,.string s4,.string s5,.string s6,.string s7,.slice a1 n1 a2,.slice b1 n2 b2,.slice c1 n3 c2,.slice d1 n4 d2,.int .i64 p0,.int .i64 p1,.int .i64 p2,.int .i64 p3,.int .i64 p4] by rw [hz];exact Bk.new _ _ _);go_enter Tryz.func81,Tryz.ntmps81
 go_upto_region 1 with fail
 rw [<- hz];clear hz;obtain ⟨bz,hbz⟩:∃ b,b = w.heap.size:=⟨_,rfl⟩;rw [<- hbz] at HBZ |-;clear hbz;go_wp2_with fail
 go_loopw [5,6] (fun x i wr=>∃ k:Nat,i = .int .i64 k /\ k <= n /\ OwnI 132 wr z.heap.size x (affI r (l.take k)) /\ Q z wr) (fun _ i _=>n - (intOf i).toNat)
 case atStart=>exact ⟨0,rfl,by omega,OwnI.nil _ _ _,Q.refl _⟩
 case round =>
  obtain ⟨k,rfl,hk,ho,hq⟩:=hrel;by_cases hlt:k < n
  ·obtain ⟨gg,off,cap,hvv,hg,_,_,c1',c2'⟩:=HV.out wr (HQZ.out.trans hq) k hlt
   cases hvv;have HTK:=Hd (HT.out k hlt);rw [HAF.out] at HTK;have hlk:=HTL.out k hk;generalize l.getD k (false,[]) = e0' at *;obtain ⟨eb,et⟩:=e0';dsimp only at c1' c2' HTK;unfold Pb.txt at c2';obtain ⟨T,hT⟩:∃ T,T = (⟨et.toArray⟩:ByteArray):=⟨_,rfl⟩;rw [<- hT] at c2';have HOZ:=Hd ho;have hol:=ho.lst;obtain ⟨xa,xc,rfl,_,_⟩:=hol.form0 hlk;have hle:=hq.le;have HQ:=Hd hq;have x5:=(HBZ.out.q hq).cell 5 rfl;clear ho hol hq;cases eb
   ·have HK2:=Hd (show affI r (l.take (k + 1)) = affI r (l.take k) ++ [(0,T,-1)] by rw [HTK.out,hT];rfl)
    clear HTK hT;go_wp2_with (at_builtin;refine Im.push elR HOZ.out rfl _ _ rfl 0 T (-1) (by rfl) (by rfl) (by omega) hle ?_)
    intro v' w3 ho3 hg3 hat3;have HQ3:=Hd (HQ.out.grown hg3 (fun j h=>(HOZ.out.lt j h).1));have HO3:=Hd (show OwnI 132 w3 z.heap.size v' (affI r (l.take (k + 1))) by rw [HK2.out];exact ho3);clear ho3 hg3 hat3 c1' c2' x5;go_wp2_with fail
    exact ⟨⟨k + 1,by go_num,by omega,HO3.out,HQ3.out⟩,by simp [intOf];omega⟩
   ·have HK2:=Hd (show affI r (l.take (k + 1)) = affI r (l.take k) ++ [(1,s5,-1)] by rw [HTK.out];rfl)
    clear HTK hT;go_wp2_with (at_builtin;refine Im.push elR HOZ.out rfl _ _ rfl 1 s5 (-1) (by rfl) (by rfl) (by omega) hle ?_)
    intro v' w3 ho3 hg3 hat3;have HQ3:=Hd (HQ.out.grown hg3 (fun j h=>(HOZ.out.lt j h).1));have HO3:=Hd (show OwnI 132 w3 z.heap.size v' (affI r (l.take (k + 1))) by rw [HK2.out];exact ho3);clear ho3 hg3 hat3 c1' c2' x5;go_wp2_with fail
    exact ⟨⟨k + 1,by go_num,by omega,HO3.out,HQ3.out⟩,by simp [intOf];omega⟩
  ·obtain rfl:k = n:=by omega
   rw [HE.out] at ho;have HO:=Hd (ho.mono HQZ.out.le);have HQ:=Hd (HQZ.out.trans hq);clear ho hq;go_wp2_with fail
   go_ret
   exact ⟨_,rfl,HO.out,HQ.out⟩
end It
end
section
open Go.RowKit
namespace Ro
open Um Cm Gm Lo
theorem cnt_le (r:Lm.Rec) (X:Pt.Pat) (A:List Pc.E) (hO:Lm.Ok r X) (hm:A ∈ Lm.affs X):Lm.cnt 3 A <= 1:=by
 have h:=hO.sg;unfold Lm.affs at hm;simp only [List.mem_cons,List.not_mem_nil,or_false] at hm;rcases hm with rfl | rfl | rfl | rfl <;> omega
theorem rparts_ok (r:Lm.Rec) (X:Pt.Pat) (a b c d v:Value) (A:List Pc.E) (w:World) (hO:Lm.Ok r X) (hL:LL w X a b c d) (hv:Pc.LstP w v A) (hm:A ∈ Lm.affs X) :
  Calls Tryz.prog 134 #[lV r X a b c d,v] w fun e w'=>∃ u,e = .returned u /\ Pb.LstP w' u (parP r A) /\ Q w w':=by
 rw [<- refP_eq r A (cnt_le r X A hO hm) (fun x hx h3=>((hO.aff A hm).2 x hx).2.2.2 (by omega))];exact rparts_any r X a b c d v A w hL hv (hO.aff A hm).1 (fun x hx=>((hO.aff A hm).2 x hx).1) (hO.len A hm)
theorem raround_true (r:Lm.Rec) (X:Pt.Pat) (a b c d:Value) (w:World) (hO:Lm.Ok r X) (hL:LL w X a b c d) :
  Calls Tryz.prog 80 #[lV r X a b c d,.bool true] w fun e w'=>∃ u v,e = .returned (.tuple #[u,v]) /\ Pb.LstP w' u (parP r X.npre) /\ Pb.LstP w' v (parP r X.nsuf) /\ Q w w':=by
 have HP1:=Hd (fun u (hq:Q w u)=>rparts_ok r X a b c d c X.npre u hO (hL.q hq) ((hL.2.2.1).q hq) (by simp [Lm.affs]));have HP2:=Hd (fun u (hq:Q w u)=>rparts_ok r X a b c d d X.nsuf u hO (hL.q hq) ((hL.2.2.2).q hq) (by simp [Lm.affs]));obtain ⟨a1,a2,rfl⟩:=hL.1.shape;obtain ⟨b1,b2,rfl⟩:=hL.2.1.shape;obtain ⟨c1,c2,rfl⟩:=hL.2.2.1.shape;obtain ⟨d1,d2,rfl⟩:=hL.2.2.2.shape;clear hL hO;generalize parP r X.npre = R1 at *;generalize parP r X.nsuf = R2 at *;generalize X.pre.length = n1 at *;generalize X.suf.length = n2 at *;generalize X.npre.length = n3 at *;generalize X.nsuf.length = n4 at *;unfold lV at HP1 HP2 |-;generalize X.pr = p0 at *;generalize X.se = p1 at *;generalize X.mi = p2 at *;generalize X.mf = p3 at *;generalize X.xf = p4 at *;generalize Lm.bs r.nam = s0 at *;generalize Lm.bs r.pat = s1 at *;generalize Lm.bs r.sys = s2 at *;generalize Lm.bs r.dec = s3 at *;generalize Lm.bs r.grp = s4 at *;generalize Lm.bs r.min = s5 at *;generalize Lm.bs r.per = s6 at *;generalize Lm.bs r.cur = s7 at *;obtain ⟨z,hz⟩:∃ z,z = w.alloc (.cells #[.string s0,.string s1,.string s2,.string s3,.string s4,.string s5,.string s6,.string s7,.slice a1 n1 a2,.slice b1 n2 b2,.slice c1 n3 c2,.slice d1 n4 d2,.int .i64 p0,.int .i64 p1,.int .i64 p2,.int .i64 p3,.int .i64 p4] 31):=⟨_,rfl⟩;have HQZ:=Hd (show Q w z by rw [hz];exact (Q.refl w).alloc _);have HBZ:=Hd (show Bk z w.heap.size 31 [.string s0,.string s1,.string s2,.string s3,.string s4,.string s5,.string s6,.string s7,.slice a1 n1 a2,.slice b1 n2 b2,.slice c1 n3 c2,.slice d1 n4 d2,.int .i64 p0,.int .i64 p1,.int .i64 p2,.int .i64 p3,.int .i64 p4] by rw [hz];exact Bk.new _ _ _);go_enter Tryz.func80,Tryz.ntmps80
 go_upto_region 1 with fail
 rw [<- hz];clear hz;generalize w.heap.size = bz at *;go_upto_region 2 with fail
 refine wp_region_held_drew (S:=fun u=>Q z u) (by kernel_rfl) (by exact (Q.refl z).drew) (fun hHeld=>?_);have hS:Q z z.drew:=hHeld;clear hHeld;have hq:Q z z.drew:=(Q.refl _).drew;clear hq;generalize z.drew = yR1x0 at *;change wpAnyH _ _ _ _ _ _ #[ff,ff,ff,ff,ff,ff,ff,ff,ff,ff,ff,ff] _ _;refine tk 0 (by simp only [gA,gB,gC];rfl) (by first | kernel_rfl | rfl) (fun uz hSw=>by (try dsimp only at hSw);refine ld_row (x:=.tmp 2) ?_ ?_ (HBZ.out.q hSw) Tryz.underlying31 (by exact infoL) <;> rfl) pq hS ?_
 try simp only [Act.put,sA,sB,sC]
 refine tk 1 (by simp only [gA,gB,gC];rfl) (by first | kernel_rfl | rfl) (fun uz _=>by go_simp;try with_reducible rfl) pq hS ?_;try simp only [Act.put,sA,sB,sC]
 refine tk 2 (by simp only [gA,gB,gC];rfl) (by first | kernel_rfl | rfl) (fun uz _=>by go_simp;try with_reducible rfl) pq hS ?_;try simp only [Act.put,sA,sB,sC]
 refine tk 3 (by simp only [gA,gB,gC];rfl) (by first | kernel_rfl | rfl) (fun uz hSw=>by (try dsimp only at hSw);have q:=(HBZ.out.q hSw).cell 10 rfl;go_simp;try with_reducible rfl) pq hS ?_;try simp only [Act.put,sA,sB,sC]
 refine tk 5 (by simp only [gA,gB,gC];rfl) (by first | kernel_rfl | rfl) (fun uz hSw=>by (try dsimp only at hSw);refine ld_row (x:=.tmp 2) ?_ ?_ (HBZ.out.q hSw) Tryz.underlying31 (by exact infoL) <;> rfl) pq hS ?_
 try simp only [Act.put,sA,sB,sC]
 refine tk 6 (by simp only [gA,gB,gC];rfl) (by first | kernel_rfl | rfl) (fun uz _=>by go_simp;try with_reducible rfl) pq hS ?_;try simp only [Act.put,sA,sB,sC]
 refine tk 7 (by simp only [gA,gB,gC];rfl) (by first | kernel_rfl | rfl) (fun uz _=>by go_simp;try with_reducible rfl) pq hS ?_;try simp only [Act.put,sA,sB,sC]
 refine tk 8 (by simp only [gA,gB,gC];rfl) (by first | kernel_rfl | rfl) (fun uz hSw=>by (try dsimp only at hSw);have q:=(HBZ.out.q hSw).cell 11 rfl;go_simp;try with_reducible rfl) pq hS ?_;try simp only [Act.put,sA,sB,sC]
 refine wpAnyH_ready (rs:=[4]) (by kernel_rfl) (by simp) ?_;refine ar rfl fun K hK=>?_;go_simp
 refine (HP1.out _ (HQZ.out.trans hS)).mono ?_;rintro e yR1x9 ⟨u1,rfl,hu1,hq⟩;have HU1:=Hd hu1;obtain ⟨ua,uc,rfl⟩:=hu1.shape;clear hu1;generalize R1.length = m1 at *;try (go_wp2_with fail)
 have hS2:=Q.trans hS hq;refine hK.out _ _ (by exact hS2) (fun hHeld=>?_);clear hK K hHeld hS hq;have hS:=hS2;clear hS2;try simp only [Act.put,sA,sB,sC]
 refine wpAnyH_ready (rs:=[9]) (by kernel_rfl) (by simp) ?_;refine ar rfl fun K hK=>?_;go_simp
 refine (HP2.out _ (HQZ.out.trans hS)).mono ?_;rintro e yR1x10 ⟨u2,rfl,hu2,hq⟩;have HU2:=Hd hu2;obtain ⟨ub,ud,rfl⟩:=hu2.shape;clear hu2;generalize R2.length = m2 at *;try (go_wp2_with fail)
 have HU1:=Hd (Pb.LstP.q HU1.out hq);have hS2:=Q.trans hS hq;refine hK.out _ _ (by exact hS2) (fun hHeld=>?_);clear hK K hHeld hS hq;have hS:=hS2;clear hS2;try simp only [Act.put,sA,sB,sC]
 refine tk 10 (by simp only [gA,gB,gC];rfl) (by first | kernel_rfl | rfl) (fun uz _=>by go_simp;try with_reducible rfl) pq hS ?_;try simp only [Act.put,sA,sB,sC]
 refine tk 11 (by simp only [gA,gB,gC];rfl) (by first | kernel_rfl | rfl) (fun uz _=>by go_simp;try with_reducible rfl) pq hS ?_;try simp only [Act.put,sA,sB,sC]
 refine wpAnyH_done (by kernel_rfl) ?_ _;have HQ:=Hd (HQZ.out.trans hS);clear hS;go_wp2_with fail
 first
  | (rename_i dx1 d1 hx1 dx2 d2 hx2;have hy1:(some 5:Option Tmp) = some d1:=hx1;have hy2:(some 4:Option Tmp) = some d2:=hx2;obtain rfl:=Option.some.inj hy1;obtain rfl:=Option.some.inj hy2;clear hx1 hx2 hy1 hy2)
  | (rename_i dx1 d1 hx1;have hy1:(some 5:Option Tmp) = some d1:=hx1;obtain rfl:=Option.some.inj hy1;clear hx1 hy1)
  | skip
 go_ret2
 exact ⟨_,_,rfl,HU1.out,HU2.out,HQ.out⟩
theorem raround_false (r:Lm.Rec) (X:Pt.Pat) (a b c d:Value) (w:World) (hO:Lm.Ok r X) (hL:LL w X a b c d) :
  Calls Tryz.prog 80 #[lV r X a b c d,.bool false] w fun e w'=>∃ u v,e = .returned (.tuple #[u,v]) /\ Pb.LstP w' u (parP r X.pre) /\ Pb.LstP w' v (parP r X.suf) /\ Q w w':=by
 have HP1:=Hd (fun u (hq:Q w u)=>rparts_ok r X a b c d a X.pre u hO (hL.q hq) ((hL.1).q hq) (by simp [Lm.affs]));have HP2:=Hd (fun u (hq:Q w u)=>rparts_ok r X a b c d b X.suf u hO (hL.q hq) ((hL.2.1).q hq) (by simp [Lm.affs]));obtain ⟨a1,a2,rfl⟩:=hL.1.shape;obtain ⟨b1,b2,rfl⟩:=hL.2.1.shape;obtain ⟨c1,c2,rfl⟩:=hL.2.2.1.shape;obtain ⟨d1,d2,rfl⟩:=hL.2.2.2.shape;clear hL hO;generalize parP r X.pre = R1 at *;generalize parP r X.suf = R2 at *;generalize X.pre.length = n1 at *;generalize X.suf.length = n2 at *;generalize X.npre.length = n3 at *;generalize X.nsuf.length = n4 at *;unfold lV at HP1 HP2 |-;generalize X.pr = p0 at *;generalize X.se = p1 at *;generalize X.mi = p2 at *;generalize X.mf = p3 at *;generalize X.xf = p4 at *;generalize Lm.bs r.nam = s0 at *;generalize Lm.bs r.pat = s1 at *;generalize Lm.bs r.sys = s2 at *;generalize Lm.bs r.dec = s3 at *;generalize Lm.bs r.grp = s4 at *;generalize Lm.bs r.min = s5 at *;generalize Lm.bs r.per = s6 at *;generalize Lm.bs r.cur = s7 at *;obtain ⟨z,hz⟩:∃ z,z = w.alloc (.cells #[.string s0,.string s1,.string s2,.string s3,.string s4,.string s5,.string s6,.string s7,.slice a1 n1 a2,.slice b1 n2 b2,.slice c1 n3 c2,.slice d1 n4 d2,.int .i64 p0,.int .i64 p1,.int .i64 p2,.int .i64 p3,.int .i64 p4] 31):=⟨_,rfl⟩;have HQZ:=Hd (show Q w z by rw [hz];exact (Q.refl w).alloc _);have HBZ:=Hd (show Bk z w.heap.size 31 [.string s0,.string s1,.string s2,.string s3,.string s4,.string s5,.string s6,.string s7,.slice a1 n1 a2,.slice b1 n2 b2,.slice c1 n3 c2,.slice d1 n4 d2,.int .i64 p0,.int .i64 p1,.int .i64 p2,.int .i64 p3,.int .i64 p4] by rw [hz];exact Bk.new _ _ _);go_enter Tryz.func80,Tryz.ntmps80
 go_upto_region 1 with fail
 rw [<- hz];clear hz;generalize w.heap.size = bz at *;go_upto_region 3 with fail
 refine wp_region_held_drew (S:=fun u=>Q z u) (by kernel_rfl) (by exact (Q.refl z).drew) (fun hHeld=>?_);have hS:Q z z.drew:=hHeld;clear hHeld;have hq:Q z z.drew:=(Q.refl _).drew;clear hq;generalize z.drew = yR2x0 at *;change wpAnyH _ _ _ _ _ _ #[ff,ff,ff,ff,ff,ff,ff,ff,ff,ff,ff,ff] _ _;refine tk 0 (by simp only [gA,gB,gC];rfl) (by first | kernel_rfl | rfl) (fun uz hSw=>by (try dsimp only at hSw);refine ld_row (x:=.tmp 2) ?_ ?_ (HBZ.out.q hSw) Tryz.underlying31 (by exact infoL) <;> rfl) pq hS ?_
 try simp only [Act.put,sA,sB,sC]
 refine tk 1 (by simp only [gA,gB,gC];rfl) (by first | kernel_rfl | rfl) (fun uz _=>by go_simp;try with_reducible rfl) pq hS ?_;try simp only [Act.put,sA,sB,sC]
 refine tk 2 (by simp only [gA,gB,gC];rfl) (by first | kernel_rfl | rfl) (fun uz _=>by go_simp;try with_reducible rfl) pq hS ?_;try simp only [Act.put,sA,sB,sC]
 refine tk 3 (by simp only [gA,gB,gC];rfl) (by first | kernel_rfl | rfl) (fun uz hSw=>by (try dsimp only at hSw);have q:=(HBZ.out.q hSw).cell 8 rfl;go_simp;try with_reducible rfl) pq hS ?_;try simp only [Act.put,sA,sB,sC]
 refine tk 5 (by simp only [gA,gB,gC];rfl) (by first | kernel_rfl | rfl) (fun uz hSw=>by (try dsimp only at hSw);refine ld_row (x:=.tmp 2) ?_ ?_ (HBZ.out.q hSw) Tryz.underlying31 (by exact infoL) <;> rfl) pq hS ?_
 try simp only [Act.put,sA,sB,sC]
 refine tk 6 (by simp only [gA,gB,gC];rfl) (by first | kernel_rfl | rfl) (fun uz _=>by go_simp;try with_reducible rfl) pq hS ?_;try simp only [Act.put,sA,sB,sC]
 refine tk 7 (by simp only [gA,gB,gC];rfl) (by first | kernel_rfl | rfl) (fun uz _=>by go_simp;try with_reducible rfl) pq hS ?_;try simp only [Act.put,sA,sB,sC]
 refine tk 8 (by simp only [gA,gB,gC];rfl) (by first | kernel_rfl | rfl) (fun uz hSw=>by (try dsimp only at hSw);have q:=(HBZ.out.q hSw).cell 9 rfl;go_simp;try with_reducible rfl) pq hS ?_;try simp only [Act.put,sA,sB,sC]
 refine wpAnyH_ready (rs:=[4]) (by kernel_rfl) (by simp) ?_;refine ar rfl fun K hK=>?_;go_simp
 refine (HP1.out _ (HQZ.out.trans hS)).mono ?_;rintro e yR2x9 ⟨u1,rfl,hu1,hq⟩;have HU1:=Hd hu1;obtain ⟨ua,uc,rfl⟩:=hu1.shape;clear hu1;generalize R1.length = m1 at *;try (go_wp2_with fail)
 have hS2:=Q.trans hS hq;refine hK.out _ _ (by exact hS2) (fun hHeld=>?_);clear hK K hHeld hS hq;have hS:=hS2;clear hS2;try simp only [Act.put,sA,sB,sC]
 refine wpAnyH_ready (rs:=[9]) (by kernel_rfl) (by simp) ?_;refine ar rfl fun K hK=>?_;go_simp
 refine (HP2.out _ (HQZ.out.trans hS)).mono ?_;rintro e yR2x10 ⟨u2,rfl,hu2,hq⟩;have HU2:=Hd hu2;obtain ⟨ub,ud,rfl⟩:=hu2.shape;clear hu2;generalize R2.length = m2 at *;try (go_wp2_with fail)
 have HU1:=Hd (Pb.LstP.q HU1.out hq);have hS2:=Q.trans hS hq;refine hK.out _ _ (by exact hS2) (fun hHeld=>?_);clear hK K hHeld hS hq;have hS:=hS2;clear hS2;try simp only [Act.put,sA,sB,sC]
 refine tk 10 (by simp only [gA,gB,gC];rfl) (by first | kernel_rfl | rfl) (fun uz _=>by go_simp;try with_reducible rfl) pq hS ?_;try simp only [Act.put,sA,sB,sC]
 refine tk 11 (by simp only [gA,gB,gC];rfl) (by first | kernel_rfl | rfl) (fun uz _=>by go_simp;try with_reducible rfl) pq hS ?_;try simp only [Act.put,sA,sB,sC]
 refine wpAnyH_done (by kernel_rfl) ?_ _;have HQ:=Hd (HQZ.out.trans hS);clear hS;go_wp2_with fail
 first
  | (rename_i dx1 d1 hx1 dx2 d2 hx2;have hy1:(some 5:Option Tmp) = some d1:=hx1;have hy2:(some 4:Option Tmp) = some d2:=hx2;obtain rfl:=Option.some.inj hy1;obtain rfl:=Option.some.inj hy2;clear hx1 hx2 hy1 hy2)
  | (rename_i dx1 d1 hx1;have hy1:(some 5:Option Tmp) = some d1:=hx1;obtain rfl:=Option.some.inj hy1;clear hx1 hy1)
  | skip
 go_ret2
 exact ⟨_,_,rfl,HU1.out,HU2.out,HQ.out⟩
end Ro
end
end Go.Proofs.YteggfkbnnmpcjaaGreatDoor
