/- The document's own strict: a draft's text, the draft of a text. (and more) -/
import Derived.Test.YteggfkbnnmpcjaaGreatDoorR49
set_option linter.all false
set_option maxRecDepth 100000
set_option maxHeartbeats 8000000
namespace Go.Proofs.YteggfkbnnmpcjaaGreatDoor
section
open Go.RowKit
namespace Rs
open Um Cm Gm Im Lo Ro Sx Tm
theorem infoD:(Tryz.prog.info? 43).map (·.size) = some 4:=by kernel_rfl
theorem itd_small {r:Lm.Rec} {X:Pt.Pat} (h:It.LOk r X) {d:T} (hm:may d = true) (l1:d.i.length <= 5000) (l2:d.f.length <= 5000):(itd r X d).length <= 15007 /\ (txI (itd r X d)).length <= 1000000:=by
 have h1:=tx_size h hm;have h2:=itm_len r X.pr X.se d (parP r (Ro.ahd d.g X)) (parP r (Ro.bhd d.g X));have h3:=(Ro.around_fact h.ok d.g).2.2.1;have h4:=(Ro.around_fact h.ok d.g).2.2.2;have e:(tx r X d).size = (txI (itd r X d)).length:=by unfold tx;simp [ByteArray.size]
 rw [e] at h1;unfold itd at h1 |-;have h5:64 * (2 * d.i.length + d.f.length + 7) <= 64 * 15007:=Nat.mul_le_mul_left _ (by omega);exact ⟨by omega,by omega⟩
theorem text_any (r:Lm.Rec) (X:Pt.Pat) (a b c d:Value) (g s:Bool) (e1 e2:Option Addr) (m1 m2 f1 f2:Nat) (I F:List Int) (w:World) (hok:It.LOk r X) (hL:Ro.LL w X a b c d) (hi:Lst w (.slice e1 m1 f1) I) (hf:Lst w (.slice e2 m2 f2) F) (k1:I.length = m1) (k2:F.length = m2) (l1:m1 <= 5000) (l2:m2 <= 5000) (hm:may ⟨g,I,s,F⟩ = true) :
  Calls Tryz.prog 17 #[lV r X a b c d,.agg #[.bool g,.slice e1 m1 f1,.bool s,.slice e2 m2 f2]] w fun e w'=>e = .returned (.string (tx r X ⟨g,I,s,F⟩)) /\ Q w w':=by
 have HRI:=Hd (fun u (q:Q w u)=>It.ritems_big r X a b c d g s e1 e2 m1 m2 f1 f2 I F u hok.ok (hL.q q) (hi.q q) (hf.q q) k1 k2 (by omega) (by omega) hm hok.pr hok.se.2);have hsm:=itd_small hok hm (by dsimp only;omega) (by dsimp only;omega);have HTX:=Hd (show tx r X ⟨g,I,s,F⟩ = ⟨(txI (itd r X ⟨g,I,s,F⟩)).toArray⟩ from rfl);have hE:itm r X.pr X.se ⟨g,I,s,F⟩ (parP r (Ro.ahd g X)) (parP r (Ro.bhd g X)) = itd r X ⟨g,I,s,F⟩:=rfl;rw [hE] at HRI;rw [HTX.out];have hic:=hi.form0 k1;obtain ⟨_,_,hv,hnc,hcm⟩:=hic;cases hv;have hfc:=hf.form0 k2;obtain ⟨_,_,hv,hnf,hfm⟩:=hfc;cases hv;unfold maxLen at hcm hfm;obtain ⟨a1,a2,rfl⟩:=hL.1.shape;obtain ⟨b1,b2,rfl⟩:=hL.2.1.shape;obtain ⟨c1,c2,rfl⟩:=hL.2.2.1.shape;obtain ⟨d1,d2,rfl⟩:=hL.2.2.2.shape;clear hL hi hf k1 k2 l1 l2 hE HTX hm;generalize itd r X ⟨g,I,s,F⟩ = L at *;have HSM:=Hd hsm;clear hok hsm;unfold lV at *;generalize X.pre.length = n1 at *;generalize X.suf.length = n2 at *;generalize X.npre.length = n3 at *;generalize X.nsuf.length = n4 at *;generalize X.pr = p0 at *;generalize X.se = p1 at *;generalize X.mi = p2 at *;generalize X.mf = p3 at *;generalize X.xf = p4 at *;generalize Lm.bs r.nam = s0 at *;generalize Lm.bs r.pat = s1 at *;generalize Lm.bs r.sys = s2 at *;generalize Lm.bs r.dec = s3 at *;generalize Lm.bs r.grp = s4 at *;generalize Lm.bs r.min = s5 at *;generalize Lm.bs r.per = s6 at *;generalize Lm.bs r.cur = s7 at *;obtain ⟨y,hy⟩:∃ y,y = w.alloc (.cells #[.string s0,.string s1,.string s2,.string s3,.string s4,.string s5,.string s6,.string s7,.slice a1 n1 a2,.slice b1 n2 b2,.slice c1 n3 c2,.slice d1 n4 d2,.int .i64 p0,.int .i64 p1,.int .i64 p2,.int .i64 p3,.int .i64 p4] 31):=⟨_,rfl⟩;have hqy:Q w y:=by rw [hy];exact (Q.refl w).alloc _
 have hby:Bk y w.heap.size 31 [.string s0,.string s1,.string s2,.string s3,.string s4,.string s5,.string s6,.string s7,.slice a1 n1 a2,.slice b1 n2 b2,.slice c1 n3 c2,.slice d1 n4 d2,.int .i64 p0,.int .i64 p1,.int .i64 p2,.int .i64 p3,.int .i64 p4]:=by rw [hy];exact Bk.new _ _ _
 have hsy:y.heap.size = w.heap.size + 1:=by rw [hy];simp
 obtain ⟨z,hz⟩:∃ z,z = y.alloc (.cells #[.bool g,.slice e1 m1 f1,.bool s,.slice e2 m2 f2] 43):=⟨_,rfl⟩;have hqz:Q y z:=by rw [hz];exact (Q.refl y).alloc _
 have hdz:Bk z y.heap.size 43 [.bool g,.slice e1 m1 f1,.bool s,.slice e2 m2 f2]:=by rw [hz];exact Bk.new _ _ _
 rw [hsy] at hdz;have HQZ:=Hd (hqy.trans hqz);have HBZ:=Hd (hby.q hqz);have HDZ:=Hd hdz;have hz2:z = (w.alloc (.cells #[.string s0,.string s1,.string s2,.string s3,.string s4,.string s5,.string s6,.string s7,.slice a1 n1 a2,.slice b1 n2 b2,.slice c1 n3 c2,.slice d1 n4 d2,.int .i64 p0,.int .i64 p1,.int .i64 p2,.int .i64 p3,.int .i64 p4] 31)).alloc (.cells #[.bool g,.slice e1 m1 f1,.bool s,.slice e2 m2 f2] 43):=by rw [hz,hy]
 clear hqy hby hqz hdz hsy hz hy;go_enter Tryz.func17,Tryz.ntmps17
 go_upto_region 1 with fail
 rw [<- hz2];clear hz2;obtain ⟨bz,hbz⟩:∃ b,b = w.heap.size:=⟨_,rfl⟩;obtain ⟨bd,hbd⟩:∃ b,b = w.heap.size + 1:=⟨_,rfl⟩;rw [<- hbz] at HBZ;rw [<- hbd] at HDZ;rw [<- hbd,<- hbz];clear hbz hbd;go_wp2_with (first | (refine wpList_load_row (by rfl) 31 _ (by rfl) bz (by rfl) 31 #[.string s0,.string s1,.string s2,.string s3,.string s4,.string s5,.string s6,.string s7,.slice a1 n1 a2,.slice b1 n2 b2,.slice c1 n3 c2,.slice d1 n4 d2,.int .i64 p0,.int .i64 p1,.int .i64 p2,.int .i64 p3,.int .i64 p4] (0,0) _ HBZ.out Tryz.underlying31 rfl (by exact infoL) ?_) | (refine wpList_load_row (by rfl) 43 _ (by rfl) bd (by rfl) 43 #[.bool g,.slice e1 m1 f1,.bool s,.slice e2 m2 f2] (0,0) _ HDZ.out Tryz.underlying43 rfl (by exact infoD) ?_))
 refine (HRI.out _ HQZ.out).mono ?_;rintro e w1 ⟨v,rfl,hov,hq1⟩;have HQ1:=Hd (HQZ.out.trans hq1);have HV:=Hd hov.lst;obtain ⟨va,vc,rfl⟩:=hov.shape;clear hov hq1;go_wp2_with fail
 refine (It.rtext_any _ L w1 HV.out (by have:=HSM.out.1;omega) HSM.out.2).mono ?_;rintro e w2 ⟨rfl,hq2⟩;have HQ2:=Hd (HQ1.out.trans hq2);clear hq2;go_wp2_with fail
 go_ret
 exact ⟨rfl,HQ2.out⟩
end Rs
end
section
namespace Ps
open Um Cm Gm Im Sx
def fsK (t:St) (l:List Nat):St:=l.foldl (fun t (k:Nat)=>stp t (k:Int)) t
theorem cntF_app (t:St) (a b:List Nat):cntF t (a ++ b) = cntF t a + cntF (fsK t a) b:=by
 induction a generalizing t with
 | nil=>simp [cntF,fsK]
 | cons k a ih =>
  rw [List.cons_append,cntF,cntF,ih,fsK,fsK,List.foldl_cons];omega
theorem fsK_app (t:St) (a b:List Nat):fsK t (a ++ b) = fsK (fsK t a) b:=List.foldl_append
theorem stL_reset (l:List Int) (c:Int) (h:jn (stL l) (cls c) = false):stp (stL l) (cls c) = stp st0 (cls c):=by
 rw [stL_rev] at h |-;exact stR_reset _ _ h
theorem cut_last:∀ (n:Nat) (xs:List Int),xs.length = n + 1 -> ∃ ys c r,xs = ys ++ c :: r /\ cntF st0 ((c :: r).map cls) = 1 /\ jn (stL ys) (cls c) = false /\ fsK st0 ((c :: r).map cls) = stL xs
 | 0,xs,h=>by
  obtain ⟨c,rfl⟩:=List.length_eq_one_iff.1 h;refine ⟨[],c,[],rfl,?_,jn_st0 _,rfl⟩;show (if jn st0 (cls c) = true then 0 else 1) + 0 = 1
  rw [jn_st0];rfl
 | n + 1,xs,h=>by
  obtain ⟨ws,c,rfl⟩:∃ ws c,xs = ws ++ [c]:=⟨xs.dropLast,xs.getLast (by intro e;rw [e] at h;simp at h),(List.dropLast_concat_getLast _).symm⟩;obtain ⟨ys,c0,r,h1,h2,h3,h4⟩:=cut_last n ws (by simpa using h);by_cases hj:jn (stL ws) (cls c) = true
  ·refine ⟨ys,c0,r ++ [c],by rw [h1];simp,?_,h3,?_⟩
   ·rw [<- List.cons_append,List.map_append,cntF_app,h2,h4]
    show 1 + ((if jn (stL ws) (cls c) = true then 0 else 1) + 0) = 1
    rw [if_pos hj]
   ·rw [<- List.cons_append,List.map_append,fsK_app,h4,stL_snoc];rfl
  ·have hj':jn (stL ws) (cls c) = false:=by simpa using hj
   refine ⟨ws,c,[],rfl,?_,hj',?_⟩
   ·show (if jn st0 (cls c) = true then 0 else 1) + 0 = 1
    rw [jn_st0];rfl
   ·rw [stL_snoc,stL_reset ws c hj'];rfl
theorem join_app (a b:List Int):joinL (a ++ b) = joinL a ++ joinL b:=List.flatMap_append
theorem mrk_join (c:Int) (r:List Int) (h:∀ x ∈ c :: r,vld x = true):joinL (c :: r) ≠ [] /\ (mrk (joinL (c :: r))).1 = c:=by
 have hm:=marks_join0 (c :: r) h;have hne:joinL (c :: r) ≠ []:=by
  intro e;rw [e] at hm;cases hm
 rw [marks_cons _ hne] at hm;exact ⟨hne,congrArg (·.1) (List.cons.inj hm).1⟩
theorem pcs_join (ys:List Int) (c:Int) (r:List Int) (h:∀ x ∈ ys ++ c :: r,vld x = true) (hj:jn (stL ys) (cls c) = false) :
  pcs ⟨(joinL (ys ++ c :: r)).toArray⟩ = pcs ⟨(joinL ys).toArray⟩ ++ pcs ⟨(joinL (c :: r)).toArray⟩:=by
 have hy:∀ x ∈ ys,vld x = true:=fun x hx=>h x (List.mem_append.2 (.inl hx));have hz:∀ x ∈ c :: r,vld x = true:=fun x hx=>h x (List.mem_append.2 (.inr hx));rw [join_app,bs_app];refine pcs_part _ _ (ok_marks (okL_join ys hy) _) (fun _=>?_);show jn (stMs (marks (joinL ys))) (cls (mrk (joinL (c :: r))).1) = false;rw [(mrk_join c r hz).2];unfold stMs;rw [show (marks (joinL ys)).map (·.1) = ys from allL_join ys hy];exact hj
theorem pcs_each:∀ (n:Nat) (xs:List Int),xs.length <= n -> (∀ x ∈ xs,vld x = true) -> ∀ p ∈ pcs ⟨(joinL xs).toArray⟩,
  ∃ ys c r,(∀ x ∈ ys ++ c :: r,x ∈ xs) /\ (ys = [] -> xs.head? = some c) /\ jn (stL ys) (cls c) = false /\ p = ⟨(joinL (c :: r)).toArray⟩ /\ (pcs p).length = 1
 | 0,xs,hn,hv,p,hp=>by
  have:xs = []:=List.eq_nil_of_length_eq_zero (by omega);subst this;rw [show (⟨(joinL []).toArray⟩:ByteArray) = ⟨#[]⟩ from rfl,pcs_emp] at hp;cases hp
 | n + 1,xs,hn,hv,p,hp=>by
  by_cases h0:xs = []
  ·subst h0
   rw [show (⟨(joinL []).toArray⟩:ByteArray) = ⟨#[]⟩ from rfl,pcs_emp] at hp;cases hp
  ·obtain ⟨ys,c,r,h1,h2,h3,h4⟩:=cut_last (xs.length - 1) xs (by have:=List.length_pos_iff.2 h0;omega)
   have hz:∀ x ∈ c :: r,vld x = true:=fun x hx=>hv x (by rw [h1];exact List.mem_append.2 (.inr hx));have hl:(pcs ⟨(joinL (c :: r)).toArray⟩).length = 1:=by
    rw [pcs_length];show (begL (joinL (c :: r))).length = 1;rw [begL_join _ hz,h2]
   have hpcs:=pcs_join ys c r (by rw [<- h1];exact hv) h3;rw [<- h1] at hpcs;rw [hpcs] at hp;rcases List.mem_append.1 hp with hp | hp
   ·obtain ⟨ys',c',r',g1,g2,g3,g4,g5⟩:=pcs_each n ys (by rw [h1] at hn;simp at hn;omega) (fun x hx=>hv x (by rw [h1];exact List.mem_append.2 (.inl hx))) p hp
    refine ⟨ys',c',r',fun x hx=>by rw [h1];exact List.mem_append.2 (.inl (g1 x hx)),fun e=>?_,g3,g4,g5⟩;have:=g2 e;rw [h1,List.head?_append,this];rfl
   ·rw [pcs_one hl] at hp
    have e:p = ⟨(joinL (c :: r)).toArray⟩:=by simpa using hp
    refine ⟨ys,c,r,fun x hx=>by rw [h1];exact hx,fun e=>by rw [h1,e];rfl,h3,e,by rw [e];exact hl⟩
end Ps
end
section
namespace Ps
open Um Cm Gm Im Sx
theorem e_fine:Lm.eL.all fine = true:=by decide +kernel
theorem fine_mk {r:Lm.Rec} {X:Pt.Pat} (h:Ro.IsMk r X):Fine r X:=by
 obtain ⟨s,p,d,m,u,c,q,hs,hp,hd,hm,hu,hc,hq,rfl,rfl⟩:=h;intro x hx;unfold Lm.clus at hx;obtain ⟨A,hA,hxA⟩:=List.mem_flatMap.1 hx;exact List.all_eq_true.1 e_fine x (Lm.of_isin (List.all_eq_true.1 (List.all_eq_true.1 (Lm.f_clus p hp u hu c hc) A hA) x hxA))
theorem fine_f0:∀ i,i < 8 -> (Lm.clus (Fm.T (0 + i)) (Fm.P (Fm.nP (0 + i)))).all fine = true:=by decide +kernel
theorem fine_f8:∀ i,i < 8 -> (Lm.clus (Fm.T (8 + i)) (Fm.P (Fm.nP (8 + i)))).all fine = true:=by decide +kernel
theorem fine_f16:∀ i,i < 8 -> (Lm.clus (Fm.T (16 + i)) (Fm.P (Fm.nP (16 + i)))).all fine = true:=by decide +kernel
theorem fine_f24:∀ i,i < 8 -> (Lm.clus (Fm.T (24 + i)) (Fm.P (Fm.nP (24 + i)))).all fine = true:=by decide +kernel
theorem fine_f32:∀ i,i < 8 -> (Lm.clus (Fm.T (32 + i)) (Fm.P (Fm.nP (32 + i)))).all fine = true:=by decide +kernel
theorem fine_forty {i:Nat} (h:i < 40):Fine (Fm.T i) (Fm.P (Fm.nP i)):=by
 have e:∀ a,a <= i -> i < a + 8 -> (∀ j,j < 8 -> (Lm.clus (Fm.T (a + j)) (Fm.P (Fm.nP (a + j)))).all fine = true) -> Fine (Fm.T i) (Fm.P (Fm.nP i)):=by
  intro a h1 h2 h3 c hc;have h4:=h3 (i - a) (by omega);rw [show a + (i - a) = i by omega] at h4;exact List.all_eq_true.1 h4 c hc
 by_cases h1:i < 8
 ·exact e 0 (by omega) (by omega) fine_f0
 ·by_cases h2:i < 16
  ·exact e 8 (by omega) (by omega) fine_f8
  ·by_cases h3:i < 24
   ·exact e 16 (by omega) (by omega) fine_f16
   ·by_cases h4:i < 32
    ·exact e 24 (by omega) (by omega) fine_f24
    ·exact e 32 (by omega) (by omega) fine_f32
end Ps
end
section
open Go.RowKit
namespace Ps
open Um Cm Gm Im Lo Sx
theorem infoC:(Tryz.prog.info? 47).map (·.size) = some 2:=by kernel_rfl
theorem ret_ct {fn:Func} {p x:Tmp} (h:fn.results = #[.cell p 47,.tmp x]) {R:Ending -> World -> Prop} {a:Act} {w:World} {g:Nat} {l:List Value} {u:Value}
  (hl:l.length = 2) (hp:a.tmps.getD p undef = .pointer (some ⟨g,0,none⟩)) (hx:a.tmps.getD x undef = u) (hg:Bk w g 47 l) (hdf:a.defers = []) (hR:R (.returned (.tuple #[.agg l.toArray,u])) w):bodyPost Tryz.prog fn R .ret a w:=by
 refine bodyPost_ret (v:=.tuple #[.agg l.toArray,u]) ?_ hdf hR;have h1:=run_loadVar_row w g 47 47 l.toArray (0,0) _ hg Tryz.underlying47 rfl (by rw [infoC];simp [hl]);have hp':a.tmps[p]?.getD undef = .pointer (some ⟨g,0,none⟩):=by simpa using hp
 have hx':a.tmps[x]?.getD undef = u:=by simpa using hx
 simp [results,h,hp',hx',asAddr,Sem.run_bind,Result.andThen,h1]
theorem joinL_len:∀ (xs:List Int),(∀ c ∈ xs,vld c = true) -> (joinL xs).length <= 4 * xs.length
 | [],_=>Nat.le_refl _
 | x :: r,h=>by
  have h1:=(enc_length x (h x List.mem_cons_self)).2;have h2:=joinL_len r (fun c hc=>h c (List.mem_cons_of_mem _ hc));have e:joinL (x :: r) = enc x ++ joinL r:=by
   rw [show joinL (x :: r) = Um.one x ++ joinL r by simp [joinL]];unfold Um.one;rw [if_pos (h x List.mem_cons_self)]
  rw [e,List.length_append,List.length_cons];omega
theorem cln_size (s:ByteArray):(cln s).size <= 4 * s.size:=by
 have h1:=joinL_len (allL s.data.toList) (allL_vld _);have h2:=marks_length s.data.toList;rw [size_list] at h2;have e:(cln s).size = (joinL (allL s.data.toList)).length:=by unfold cln;simp [ByteArray.size]
 rw [e];unfold allL at h1 |-;rw [List.length_map] at h1;omega
theorem cln_each (r:Lm.Rec) (X:Pt.Pat) (s:ByteArray):∀ p ∈ pcs (cln s),kind r X p = kd r X p:=by
 intro p hp;obtain ⟨_,_,_,_,_,_,_,h⟩:=pcs_each _ (allL s.data.toList) (Nat.le_refl _) (allL_vld _) p hp;unfold kind;rw [if_pos h]
theorem pc_size_le (T:ByteArray) (S:List Int) (k:Nat):(pc T S k).size <= T.size:=by
 unfold pc;rw [ByteArray.size_extract];omega
theorem RD.q {u u':World} {B b:Nat} {g:Bool} {v:Value} {a:List Int} {c:Bool} {fd fs fg:Value} (h:RD u B b g v a c fd fs fg) (q:Q u u'):RD u' B b g v a c fd fs fg :=
 ⟨h.rb.q q,h.cg,h.d0,fun e=>(h.d5 e).q q,h.s0,fun e f=>(h.s6 e f).q q,fun e=>(h.s5 e).q q,h.g0,fun e=>(h.g5 e).q q⟩
theorem own_row {w:World} {B b0:Nat} {v:Value} {zs:List Int} (h:Own w B v zs) (hb:b0 < B) (cs:Array Value):Own (w.setRow b0 cs) B v zs:=h.same fun g hg=>setRow_other w b0 g cs (by have:=(h.lt g hg).1;omega)
theorem read_any (g:Nat) (r:Lm.Rec) (X:Pt.Pat) (a b c d cl:Value) (s:ByteArray) (w:World) (hB:LB w g r X a b c d cl) (hC:SLst w cl (Lm.clus r X)) (hl:(Lm.clus r X).length <= 1073741824) (hs:s.size <= 1073741824) :
  Calls Tryz.prog 16 #[.pointer (some ⟨g,0,none⟩),.string s] w fun e w'=>∃ v,e = .returned (.tuple #[.agg #[.bool (clip r X s).1,v],.int .i64 (clip r X s).2.2]) /\ Lst w' v (clip r X s).2.1 /\ Q w w':=by
 obtain ⟨bR,hbR⟩:∃ k,k = w.heap.size:=⟨_,rfl⟩;obtain ⟨y,hy⟩:∃ z,z = w.alloc (.cells #[.bool false,.slice none 0 0] 47):=⟨_,rfl⟩;have HBY:=Hd (show Bk y bR 47 [.bool false,.slice none 0 0] by rw [hy,hbR];exact Bk.new _ _ _);have HQY:=Hd (show Q w y by rw [hy];exact (Q.refl w).alloc _);have HWR:=Hd (show w.heap.size <= bR by omega);by_cases hz:4096 < s.size
 ·have hcl:clip r X s = (false,[],3):=if_pos hz
  rw [hcl];clear hB hC hl hs hcl;have hz2:(4096:Int) < s.size:=by omega
  go_enter Tryz.func16,Tryz.ntmps16
  go_upto_region 1 with fail
  rw [<- hy,<- hbR];clear hy hbR;go_wp2_with (refine wpList_store_row (by rfl) 47 _ _ (by rfl) bR #[.bool false,.slice none 0 0] (by rfl) (by rfl) 47 _ HBY.out (by exact infoC) rfl (Rw.all1 (by rfl)) ?_)
  exact ret_ct rfl rfl rfl rfl (Rw.Bk_row HBY.out [.bool false,.slice none 0 0]) rfl ⟨_,rfl,Lst.nil _ _ _ (by unfold maxLen;omega) (fun _=>rfl),Rw.Q_row HQY.out HWR.out _⟩
 ·have hcl:clip r X s = run (kds r X (cln s)) false [] false:=if_neg hz
  have hsz:=cln_size s;have HCN:=Hd (fun u=>clean_any s u hs);rw [show (⟨(joinL (allL s.data.toList)).toArray⟩:ByteArray) = cln s from rfl] at HCN;have HSP:=Hd (fun u=>csplit_any (cln s) u (by omega));have hpl:(pcs (cln s)).length <= 16384:=by
   rw [pcs_length];have:=begL_length (cln s).data.toList;rw [size_list] at this;omega
  have HKI:=Hd (fun u (q:Q w u) x (hx:x.size <= 1073741824)=>kind_any g r X a b c d cl x u (hB.q q) (hC.q q) hl hx);have HEA:=Hd (fun k (hk:k < (pcs (cln s)).length)=>show kind r X ((pcs (cln s)).getD k ⟨#[]⟩) = (kds r X (cln s)).getD k 0 /\ ((pcs (cln s)).getD k ⟨#[]⟩).size <= 1073741824 from by
   have e:(pcs (cln s)).getD k ⟨#[]⟩ = (pcs (cln s))[k]:=by simp [hk]
   rw [e];constructor
   ·rw [cln_each r X s _ (List.getElem_mem hk)]
    unfold kds;simp [hk]
   ·have hm:=List.getElem_mem hk
    generalize (pcs (cln s))[k] = x at hm |-;unfold pcs at hm;obtain ⟨j,_,rfl⟩:=List.mem_map.1 hm;have:=pc_size_le (cln s) (stL1 (cln s).data.toList) j;omega)
  have HLO:=Hd (fun x=>kd_lo r X x);have hkl:(kds r X (cln s)).length = (pcs (cln s)).length:=by unfold kds;simp
  have hk0:∀ k,k < (kds r X (cln s)).length -> -1 <= (kds r X (cln s)).getD k 0:=by
   intro k hk;have e:(kds r X (cln s)).getD k 0 = kd r X ((pcs (cln s))[k]'(by omega)):=by unfold kds;simp [show k < (pcs (cln s)).length by omega]
   rw [e];exact kd_lo r X _
  rw [hcl];clear hB hC hl hs hcl hsz HLO;generalize cln s = cs at *;generalize kds r X cs = KS at *;generalize pcs cs = P at *;obtain ⟨n,hn⟩:∃ n,n = P.length:=⟨_,rfl⟩;rw [<- hn] at HEA hkl hpl;have HN:=Hd hn.symm;rw [hkl] at hk0;have HK0:=Hd hk0;have HKL:=Hd hkl;clear hn hk0 hkl;obtain ⟨RR,hRR⟩:∃ x,x = run KS false [] false:=⟨_,rfl⟩;rw [<- hRR];have HRR:=Hd hRR.symm;have hz2:¬ (4096:Int) < s.size:=by omega
  clear hRR hz;go_enter Tryz.func16,Tryz.ntmps16
  go_upto_region 1 with fail
  rw [<- hy,<- hbR];clear hy hbR;go_wp2_with fail
  refine (reader_any _).mono ?_;rintro e w1 ⟨rb,rfl,hr1,hr2,hq1,hrd⟩;have HQ1:=Hd (HQY.out.trans hq1);have HB1:=Hd (HBY.out.q hq1);have HR1:=Hd (show bR < rb by have:=HBY.out.lt;omega);have HRL:=Hd hr2;have HRD:=Hd hrd;clear hr1 hr2 hq1 hrd HQY HBY;go_wp2_with fail
  refine (HCN.out _).mono ?_;rintro e w2 ⟨rfl,hq2⟩;have HQ2:=Hd hq2;clear hq2;go_wp2_with fail
  refine (HSP.out _).mono ?_;rintro e w3 ⟨v,rfl,hov,hq3⟩;have HQ3:=Hd (HQ2.out.trans hq3);have HOV3:=Hd (hov.mono (show w1.heap.size <= w2.heap.size from HQ2.out.le));obtain ⟨va,vc,rfl,hvn,hvm⟩:=hov.lst.form0 HN.out;have HRB:=Hd (show rb < w3.heap.size by have:=HQ3.out.le;have:=HRL.out;omega);have HRX:=Hd (HRD.out w3 w3.heap.size HQ3.out HRB.out);obtain ⟨B,hBB⟩:∃ k,w3.heap.size = k:=⟨_,rfl⟩;have HBB:=Hd hBB;have HQ03:=Hd (HQ1.out.trans HQ3.out);have HB3:=Hd (HB1.out.q HQ3.out);rw [hBB] at HRB HRX;clear hov hq3 hBB hvn hvm HRD HCN HSP HQ2 HQ1 HB1;go_wp2_with fail
  go_loopw [19] (fun i wr=>∃ (k:Nat) (g:Bool) (v:Value) (a:List Int) (c:Bool) (fd fs fg:Value),i = .int .i64 k /\ k <= n /\ RD wr B rb g v a c fd fs fg /\ a.length <= k /\ run (KS.drop k) g a c = RR /\ Gap rb (rb + 1) w3 wr) (fun i _=>n - (intOf i).toNat)
  case atStart=>exact ⟨0,false,_,[],false,_,_,_,rfl,by omega,HRX.out,by simp,HRR.out,Gap.refl _ _ _⟩
  case round =>
   obtain ⟨k,rg,rv,ra,rc,fd,fs,fg,rfl,hk,hrd,hal,hrun,hgp⟩:=hrel;have hqr:Q w wr:=gap_q2 HQ03.out (by have:=HWR.out;have:=HR1.out;omega) hgp;have HQR:=Hd hqr;have HGP:=Hd hgp;have HRD:=Hd hrd;have HRUN:=Hd hrun;have HBR:=Hd (show Bk wr bR 47 [.bool false,.slice none 0 0] from bk_gap HB3.out hgp (by have:=HR1.out;omega));by_cases hlt:k < n
   ·have hsv:=GOwn.gap (HOV3.out) hgp (fun y hy=>by have:=(HOV3.out.lt y hy).1;have:=HRL.out;omega)
    have hce:=hsv.lst.cellOf (x:=P.getD k ⟨#[]⟩) (k:=k) HN.out (by rw [List.getD_eq_getElem?_getD,List.getElem?_eq_getElem (show k < P.length by have:=HN.out;omega)];rfl);obtain ⟨gl,off,cap,hvv,hgl,_,_,cl0⟩:=hce;cases hvv;have HX:=Hd (HEA.out k hlt);have HK:=Hd (HKI.out wr hqr (P.getD k ⟨#[]⟩) HX.out.2);rw [HX.out.1] at HK;have HLO:=Hd (HK0.out k hlt);have HDR:=Hd (show KS.drop k = KS.getD k 0 :: KS.drop (k + 1) by
     rw [List.drop_eq_getElem_cons (by have:=HKL.out;omega)];congr 1
     simp [show k < KS.length by have:=HKL.out;omega])
    generalize P.getD k ⟨#[]⟩ = x at *;generalize KS.getD k 0 = kk at *;clear hsv hqr hgp hrd hrun HX;go_wp2_with fail
    refine HK.out.mono ?_;rintro e w4 ⟨rfl,hq4⟩;have hg4:Gap rb (rb + 1) w3 w4:=HGP.out.trans (hq4.gap _ _);have hrd4:=HRD.out.q hq4;have HQ4:=Hd (HQR.out.trans hq4);have HB4:=Hd (HBR.out.q hq4);have HNX:=Hd (next_any B rb rg rv ra rc fd fs fg kk w3 w4 HBB.out hrd4 hg4 (by omega) HLO.out);clear hq4 hg4 hrd4 cl0;go_wp2_with fail
    refine HNX.out.mono ?_;rintro e w5 ⟨er,rfl,hg5,hor⟩;have HG5:=Hd hg5;have HQ5:=Hd (show Q w w5 from gap_q2 HQ03.out (by have:=HWR.out;have:=HR1.out;omega) hg5);have HB5:=Hd (show Bk w5 bR 47 [.bool false,.slice none 0 0] from bk_gap HB3.out hg5 (by have:=HR1.out;omega));clear hg5 HNX;rcases hor with ⟨he,hr⟩ | ⟨rfl,g',v',a',c',fd',fs',fg',hrd',hal',hr⟩
    ·have HR:=Hd (show RR = (false,[],er) by rw [<- HRUN.out,HDR.out];exact hr _)
     clear hr;go_wp2_with (refine wpList_store_row (by rfl) 47 _ _ (by rfl) bR #[.bool false,.slice none 0 0] (by rfl) (by rfl) 47 _ HB5.out (by exact infoC) rfl (Rw.all1 (by rfl)) ?_)
     exact ret_ct rfl rfl rfl rfl (Rw.Bk_row HB5.out [.bool false,.slice none 0 0]) rfl ⟨.slice none 0 0,by rw [HR.out];rfl,by rw [HR.out];exact Lst.nil _ _ _ (by unfold maxLen;omega) (fun _=>rfl),Rw.Q_row HQ5.out HWR.out _⟩
    ·have HR:=Hd (show run (KS.drop (k + 1)) g' a' c' = RR by rw [<- HRUN.out,HDR.out];exact (hr _).symm)
     have HRD':=Hd hrd';have HAL':=Hd (show a'.length <= k + 1 by omega);clear hr hrd' hal';go_wp2_with fail
     exact ⟨⟨k + 1,g',v',a',c',fd',fs',fg',rfl,by omega,HRD'.out,HAL'.out,HR.out,HG5.out⟩,by simp [intOf];omega⟩
   ·have hkn:k = n:=by omega
    subst hkn;have hend:run [] rg ra rc = RR:=by
     rw [<- hrun,List.drop_eq_nil_of_le (by have:=HKL.out;omega)]
    rw [run_end] at hend;have HEND:=Hd hend;obtain ⟨va0,vc0,rfl,_,_⟩:=hrd.rb.own.lst.form0 (n:=ra.length) rfl;have d0:=hrd.rb.bk.cell 0 rfl;have d1:=hrd.rb.bk.cell 1 rfl;clear hqr hgp hrd hrun hend;obtain ⟨m,hm⟩:∃ m,m = ra.length:=⟨_,rfl⟩;rw [<- hm] at d1 hal HRD;have HM:=Hd hm;clear hm;have FIN:(rg = false /\ m = 0 -> RR = (false,[],7)) /\ (¬ (rg = false /\ m = 0) -> RR = (rg,ra,0)):=by
     constructor
     ·rintro ⟨h1,h2⟩
      rw [<- HEND.out,if_pos ⟨h1,List.eq_nil_of_length_eq_zero (by rw [<- HM.out];exact h2)⟩]
     ·intro h
      rw [<- HEND.out,if_neg (fun h'=>h ⟨h'.1,by rw [HM.out,h'.2];rfl⟩)]
    have HF:=Hd FIN;clear FIN;cases rg with
    | true =>
     have hR:=Hd (HF.out.2 (fun h=>by cases h.1));go_wp2_with ((refine wpList_store_row (by rfl) 47 _ _ (by rfl) bR #[.bool true,.slice va0 m vc0] (by rfl) (by rfl) 47 _ HBR.out (by exact infoC) rfl (Rw.all1 (by rfl)) ?_))
     exact ret_ct rfl rfl rfl rfl (Rw.Bk_row HBR.out [.bool true,.slice va0 m vc0]) rfl ⟨.slice va0 m vc0,by rw [hR.out];rfl,by rw [hR.out];exact (own_row (b0:=bR) HRD.out.rb.own (Nat.lt_trans HR1.out HRD.out.rb.lt) _).lst,Rw.Q_row HQR.out HWR.out _⟩
    | false =>
     by_cases hm0:m = 0
     ·have hR:=Hd (HF.out.1 ⟨rfl,hm0⟩)
      subst hm0;go_wp2_with (refine wpList_store_row (by rfl) 47 _ _ (by rfl) bR #[.bool false,.slice none 0 0] (by rfl) (by rfl) 47 _ HBR.out (by exact infoC) rfl (Rw.all1 (by rfl)) ?_)
      exact ret_ct rfl rfl rfl rfl (Rw.Bk_row HBR.out [.bool false,.slice none 0 0]) rfl ⟨.slice none 0 0,by rw [hR.out];rfl,by rw [hR.out];exact Lst.nil _ _ _ (by unfold maxLen;omega) (fun _=>rfl),Rw.Q_row HQR.out HWR.out _⟩
     ·have hR:=Hd (HF.out.2 (fun h=>hm0 h.2))
      have hmi:¬ (m:Int) = 0:=by omega
      go_wp2_with ((refine wpList_store_row (by rfl) 47 _ _ (by rfl) bR #[.bool false,.slice va0 m vc0] (by rfl) (by rfl) 47 _ HBR.out (by exact infoC) rfl (Rw.all1 (by rfl)) ?_))
      exact ret_ct rfl rfl rfl rfl (Rw.Bk_row HBR.out [.bool false,.slice va0 m vc0]) rfl ⟨.slice va0 m vc0,by rw [hR.out];rfl,by rw [hR.out];exact (own_row (b0:=bR) HRD.out.rb.own (Nat.lt_trans HR1.out HRD.out.rb.lt) _).lst,Rw.Q_row HQR.out HWR.out _⟩
end Ps
end
section
namespace Ps
open Um Cm Gm Im Sx
theorem cls9:cls 9 = 3:=by decide +kernel
theorem jn_tab (t:St):jn t 3 = false:=by
 obtain ⟨a,d,s,o⟩:=t;unfold jn pairB;simp [alB]
def gB (l:List Int):Prop:=(∀ c ∈ l,vld c = true /\ (cls c = 0 \/ cls c = 4 \/ cls c = 3)) /\ ∃ c r,l = c :: r /\ (cls c = 0 \/ cls c = 3)
theorem jn_gB {l:List Int} (h:∀ c ∈ l,cls c = 0 \/ cls c = 4 \/ cls c = 3) {c:Int} (hc:cls c = 0 \/ cls c = 3):jn (stL l) (cls c) = false:=by
 rcases hc with hc | hc
 ·rw [hc]
  exact jn_zero _ (stL_k7 _ fun x hx=>by rcases h x hx with h | h | h <;> omega)
 ·rw [hc]
  exact jn_tab _
theorem join_nil:(⟨(joinL []).toArray⟩:ByteArray) = ⟨#[]⟩:=rfl
theorem pcs_two {l m:List Int} (hl:∀ c ∈ l,vld c = true /\ (cls c = 0 \/ cls c = 4 \/ cls c = 3)) (hm:∀ c ∈ m,vld c = true /\ (cls c = 0 \/ cls c = 4 \/ cls c = 3)) (hh:m = [] \/ ∃ c r,m = c :: r /\ (cls c = 0 \/ cls c = 3)) :
  pcs ⟨(joinL (l ++ m)).toArray⟩ = pcs ⟨(joinL l).toArray⟩ ++ pcs ⟨(joinL m).toArray⟩:=by
 rcases hh with rfl | ⟨c,r,rfl,hc⟩
 ·rw [List.append_nil,join_nil,pcs_emp,List.append_nil]
 ·exact pcs_join l c r (fun x hx=>by
   rcases List.mem_append.1 hx with hx | hx
   ·exact (hl x hx).1
   ·exact (hm x hx).1) (jn_gB (fun x hx=>(hl x hx).2) hc)
theorem jn_four {l:List Int} (h:∀ c ∈ l,cls c = 0 \/ cls c = 4) (hne:l ≠ []):jn (stL l) 4 = true:=by
 obtain ⟨s,d,hs⟩:∃ s d,l = s ++ [d]:=⟨l.dropLast,l.getLast hne,(List.dropLast_concat_getLast hne).symm⟩;have hd:=h d (by rw [hs];simp);rw [hs,stL_snoc];have e:(stp (stL s) (cls d)).k = 0 \/ (stp (stL s) (cls d)).k = 4:=by
  show ((cls d:Nat):Int) = 0 \/ ((cls d:Nat):Int) = 4;omega
 generalize stp (stL s) (cls d) = t at e;obtain ⟨a,d,s,o⟩:=t;dsimp only at e;unfold jn pairB;rcases e with rfl | rfl <;> simp [alB]
theorem pln_each {s:ByteArray} (h:pE s.data.toList):∀ p ∈ pcs s,∃ zs,gB zs /\ p = ⟨(joinL zs).toArray⟩ /\ (pcs p).length = 1:=by
 intro p hp;rcases h with h | h
 ·rw [show s = ⟨#[]⟩ from ba_ext h,pcs_emp] at hp
  cases hp
 ·unfold pln at h
  simp only [Bool.and_eq_true] at h;obtain ⟨h1,c0,r0,h2,h3⟩:=(plain_iff _).1 h.2;have hv:∀ x ∈ allL s.data.toList,vld x = true:=allL_vld s.data.toList;have e:s = ⟨(joinL (allL s.data.toList)).toArray⟩:=ba_ext (by rw [join_ok _ h.1]);rw [e] at hp;obtain ⟨ys,c,r,g1,g2,g3,g4,g5⟩:=pcs_each _ _ (Nat.le_refl _) hv p hp;refine ⟨c :: r,⟨fun x hx=>⟨hv x (g1 x (List.mem_append.2 (.inr hx))),?_⟩,c,r,rfl,.inl ?_⟩,g4,g5⟩
  ·rcases h1 x (g1 x (List.mem_append.2 (.inr hx))) with h | h
   ·exact .inl h
   ·exact .inr (.inl h)
  ·rcases h1 c (g1 c (by simp)) with h4 | h4
   ·exact h4
   ·exfalso
    by_cases hy:ys = []
    ·have:=g2 hy
     rw [h2] at this;have e2:c0 = c:=by simpa using this
     rw [<- e2] at h4;omega
    ·rw [h4] at g3
     have:=jn_four (l:=ys) (fun x hx=>h1 x (g1 x (List.mem_append.2 (.inl hx)))) hy;rw [show ((4:Nat):Int) = 4 from rfl,this] at g3;cases g3
theorem pln_tab:pln [9] = false:=by decide +kernel
theorem sym_all {r:Lm.Rec} {X:Pt.Pat} (h:It.LOk r X):∀ x ∈ Lm.syms r,x.data.toList = [] \/ pln x.data.toList = true:=by
 intro x hx;have hd:∀ k:Nat,k < 10 -> pln (Lm.dgt r k).data.toList = true:=fun k hk=>(dgt_okT h (k:Int) (by omega) (by omega)).1;have hg:(Lm.bs r.grp).data.toList = [] \/ pln (Lm.bs r.grp).data.toList = true:=by
  by_cases hp:0 < X.pr
  ·exact .inr (sym_pln (h.ok.grp1 hp)).1
  ·exact .inl (h.ok.grp0 hp)
 unfold Lm.syms at hx;simp only [List.mem_cons,List.not_mem_nil,or_false] at hx;rcases hx with rfl | rfl | rfl | rfl | rfl | rfl | rfl | rfl | rfl | rfl | rfl | rfl | rfl
 ·exact .inr (hd 0 (by omega))
 ·exact .inr (hd 1 (by omega))
 ·exact .inr (hd 2 (by omega))
 ·exact .inr (hd 3 (by omega))
 ·exact .inr (hd 4 (by omega))
 ·exact .inr (hd 5 (by omega))
 ·exact .inr (hd 6 (by omega))
 ·exact .inr (hd 7 (by omega))
 ·exact .inr (hd 8 (by omega))
 ·exact .inr (hd 9 (by omega))
 ·exact .inr (sym_pln h.ok.dec).1
 ·exact hg
 ·exact .inr (sym_pln h.ok.min).1
theorem tab_sgn {r:Lm.Rec} {X:Pt.Pat} (h:It.LOk r X):Lm.sgn r ⟨#[9]⟩ = -1:=by
 unfold Lm.sgn;rw [if_neg (by decide)];refine Lm.plc_none _ 0 fun hm=>?_;rcases sym_all h _ hm with e | e
 ·cases e
 ·rw [show ((⟨#[9]⟩:ByteArray).data.toList) = [9] from rfl,pln_tab] at e
  cases e
theorem tab_all:allL [9] = [9] /\ oth 9 = -1 /\ blankB 9 = true:=by decide +kernel
theorem tab_kd {r:Lm.Rec} {X:Pt.Pat} (h:It.LOk r X):kd r X ⟨#[9]⟩ = 11:=by
 unfold kd;rw [tab_sgn h,show ((⟨#[9]⟩:ByteArray).data.toList) = [9] from rfl,tab_all.1];rw [if_neg (by omega),if_neg (fun e=>by have:=tab_all.2.1;have:=e.2;simp at this;omega),if_pos (.inl tab_all.2.2)]
theorem run_filter:∀ (l:List Int) (g:Bool) (a:List Int) (c:Bool),run (l.filter fun k=>!(k == 11)) g a c = run l g a c
 | [],_,_,_=>rfl
 | k :: l,g,a,c=>by
  by_cases h:k = 11
  ·subst h
   rw [List.filter_cons_of_neg (by simp),run_out];exact run_filter l g a c
  ·rw [List.filter_cons_of_pos (by simpa using h),run,run]
   simp only [run_filter l]
end Ps
end
section
namespace Ps
open Um Cm Gm Im Sx
def oneC (p:ByteArray):Prop:=∃ zs,gB zs /\ p = ⟨(joinL zs).toArray⟩ /\ (pcs p).length = 1
def catB (L:List ByteArray):ByteArray:=⟨(L.flatMap fun p=>p.data.toList).toArray⟩
theorem cat_join:∀ (L:List ByteArray),(∀ p ∈ L,oneC p) -> ∃ M,(∀ c ∈ M,vld c = true /\ (cls c = 0 \/ cls c = 4 \/ cls c = 3)) /\ (M = [] \/ ∃ c r,M = c :: r /\ (cls c = 0 \/ cls c = 3)) /\ (L.flatMap fun p=>p.data.toList) = joinL M /\ pcs ⟨(joinL M).toArray⟩ = L
 | [],_=>⟨[],(fun c hc=>by cases hc),.inl rfl,rfl,by rw [join_nil,pcs_emp]⟩
 | p :: L,h=>by
  obtain ⟨M,h1,h2,h3,h4⟩:=cat_join L fun x hx=>h x (List.mem_cons_of_mem _ hx);obtain ⟨zs,⟨g1,c,r,g2,g3⟩,hp,hl⟩:=h p List.mem_cons_self;refine ⟨zs ++ M,fun x hx=>?_,.inr ⟨c,r ++ M,by rw [g2];rfl,g3⟩,?_,?_⟩
  ·rcases List.mem_append.1 hx with hx | hx
   ·exact g1 x hx
   ·exact h1 x hx
  ·rw [List.flatMap_cons,h3,join_app,hp]
  ·rw [pcs_two g1 h1 h2,h4,<- hp,pcs_one hl]
   rfl
theorem cat_pcs {L:List ByteArray} (h:∀ p ∈ L,oneC p):pcs (catB L) = L /\ cln (catB L) = catB L:=by
 obtain ⟨M,h1,h2,h3,h4⟩:=cat_join L h;have e:catB L = ⟨(joinL M).toArray⟩:=by unfold catB;rw [h3]
 have ho:okL (joinL M) = true:=okL_join M fun c hc=>(h1 c hc).1;refine ⟨by rw [e];exact h4,?_⟩;unfold cln;rw [e];show (⟨(joinL (allL (joinL M))).toArray⟩:ByteArray) = _;rw [join_ok _ ho]
def tabB:ByteArray:=⟨#[9]⟩
theorem tab_len:(pcs tabB).length = 1:=by decide +kernel
theorem tab_join:tabB = ⟨(joinL [9]).toArray⟩:=by decide +kernel
theorem tab_one:oneC tabB:=⟨[9],⟨fun c hc=>by
 rw [List.mem_singleton.1 hc];exact ⟨by decide +kernel,.inr (.inr cls9)⟩,9,[],rfl,.inr cls9⟩,tab_join,tab_len⟩
def insB (ones:List ByteArray) (i k:Nat):Nat -> List ByteArray
 | 0=>[]
 | j + 1=>insB ones i k j ++ (if j = i \/ j = k then [tabB] else []) ++ (if j < ones.length then [ones.getD j ⟨#[]⟩] else [])
theorem ins_mem (ones:List ByteArray) (i k:Nat):∀ n,∀ p ∈ insB ones i k n,p = tabB \/ p ∈ ones
 | 0,p,h=>by cases h
 | n + 1,p,h=>by
  unfold insB at h;rcases List.mem_append.1 h with h | h
  ·rcases List.mem_append.1 h with h | h
   ·exact ins_mem ones i k n p h
   ·split at h
    ·exact .inl (List.mem_singleton.1 h)
    ·cases h
  ·split at h
   ·next hn =>
    refine .inr ?_;rw [List.mem_singleton.1 h,List.getD_eq_getElem?_getD,List.getElem?_eq_getElem hn];exact List.getElem_mem hn
   ·cases h
theorem ins_filter (f:ByteArray -> Int) (h9:f tabB = 11) (ones:List ByteArray) (i k:Nat):∀ n,((insB ones i k n).map f).filter (fun x=>!(x == 11)) = ((ones.take n).map f).filter (fun x=>!(x == 11))
 | 0=>rfl
 | n + 1=>by
  have ih:=ins_filter f h9 ones i k n;unfold insB;rw [List.map_append,List.map_append,List.filter_append,List.filter_append,ih];have e1:((if n = i \/ n = k then [tabB] else []).map f).filter (fun x=>!(x == 11)) = []:=by
   split
   ·rw [List.map_cons,List.map_nil,h9];rfl
   ·rfl
  rw [e1,List.append_nil];by_cases hn:n < ones.length
  ·rw [if_pos hn,List.take_add_one,List.getElem?_eq_getElem hn,List.map_append,List.filter_append,List.getD_eq_getElem?_getD,List.getElem?_eq_getElem hn]
   rfl
  ·rw [if_neg hn,List.take_of_length_le (by omega),List.take_of_length_le (by omega)]
   simp
theorem tx_each {r:Lm.Rec} {X:Pt.Pat} (h:It.LOk r X) {d:Tm.T} (hm:Tm.may d = true):∀ p ∈ pcs (tx r X d),oneC p:=pln_each (tx_pE h hm)
theorem run_ins {r:Lm.Rec} {X:Pt.Pat} (h:It.LOk r X) {d:Tm.T} (hm:Tm.may d = true) (i k n:Nat) (hn:(pcs (tx r X d)).length <= n) :
  run (kds r X (cln (catB (insB (pcs (tx r X d)) i k n)))) false [] false = run (kds r X (tx r X d)) false [] false:=by
 obtain ⟨h1,h2⟩:=cat_pcs (L:=insB (pcs (tx r X d)) i k n) fun p hp=>by
  rcases ins_mem _ _ _ _ p hp with e | e
  ·rw [e];exact tab_one
  ·exact tx_each h hm p e
 rw [h2];unfold kds;rw [h1,<- run_filter,ins_filter (kd r X) (tab_kd h),List.take_of_length_le hn,run_filter]
theorem cln_tx {r:Lm.Rec} {X:Pt.Pat} (h:It.LOk r X) {d:Tm.T} (hm:Tm.may d = true):cln (tx r X d) = tx r X d:=by
 unfold cln;rcases tx_pE h hm with e | e
 ·rw [e]
  exact (ba_ext e).symm
 ·unfold pln at e
  simp only [Bool.and_eq_true] at e;exact ba_ext (by rw [join_ok _ e.1])
theorem clip_tx {r:Lm.Rec} {X:Pt.Pat} (h:It.LOk r X) (hf:Fine r X) {d:Tm.T} (hm:Tm.may d = true) (hs:(tx r X d).size <= 4096) :
  clip r X (tx r X d) = if d.g = false /\ Tm.ats d = [] then (false,[],7) else (d.g,Tm.ats d,0):=by
 unfold clip;rw [if_neg (by omega),cln_tx h hm];exact run_tx h hf hm
end Ps
end
end Go.Proofs.YteggfkbnnmpcjaaGreatDoor
