/- begin: a locale, made of any, of both. (and more) -/
import Derived.Test.YtdjhkbholijnmaaGreatDoorR38
set_option linter.all false
set_option maxRecDepth 100000
set_option maxHeartbeats 8000000
namespace Go.Proofs.YtdjhkbholijnmaaGreatDoor
section
open Go.RowKit
namespace Sx
open It Um Lo Ro
theorem begin_any (g0 g1 g2 g3 g4 g5 n:Int) (w:World) (h0:-9223372036854775808 <= g0 /\ g0 <= 9223372036854775807) (h1:-9223372036854775808 <= g1 /\ g1 <= 9223372036854775807) (h2:-9223372036854775808 <= g2 /\ g2 <= 9223372036854775807) (h3:-9223372036854775808 <= g3 /\ g3 <= 9223372036854775807) (h4:-9223372036854775808 <= g4 /\ g4 <= 9223372036854775807) (h5:-9223372036854775808 <= g5 /\ g5 <= 9223372036854775807) (hn:-9223372036854775808 <= n /\ n <= 9223372036854775807) :
  Calls Tryz.prog 9 #[.agg #[.int .i64 g0,.int .i64 g1,.int .i64 g2,.int .i64 g3,.int .i64 g4,.int .i64 g5],.int .i64 n] w fun e w'=>∃ r X p v,LOk r X /\ e = .returned (.tuple #[p,v]) /\ PL w' p r X /\ RL w' v r X /\ Q w w':=by
 have HLO:=Hd (fun u=>locale_any g0 g1 g2 g3 g4 g5 n u h0 h1 h2 h3 h4 h5 hn);obtain ⟨y,hy⟩:∃ z,z = w.alloc (.cells #[.int .i64 g0,.int .i64 g1,.int .i64 g2,.int .i64 g3,.int .i64 g4,.int .i64 g5] 23):=⟨_,rfl⟩;have hqy:Q w y:=by rw [hy];exact (Q.refl w).alloc _
 have hgy:Bk y w.heap.size 23 [.int .i64 g0,.int .i64 g1,.int .i64 g2,.int .i64 g3,.int .i64 g4,.int .i64 g5]:=by rw [hy];exact Bk.new _ _ _
 obtain ⟨z,hz⟩:∃ z,z = y.alloc (.cells #[.string ⟨#[]⟩,.string ⟨#[]⟩,.string ⟨#[]⟩,.string ⟨#[]⟩,.string ⟨#[]⟩,.string ⟨#[]⟩,.string ⟨#[]⟩,.string ⟨#[]⟩,.slice none 0 0,.slice none 0 0,.slice none 0 0,.slice none 0 0,.int .i64 0,.int .i64 0,.int .i64 0,.int .i64 0,.int .i64 0] 34):=⟨_,rfl⟩;have hqz:Q y z:=by rw [hz];exact (Q.refl y).alloc _
 have HQZ:=Hd (hqy.trans hqz);have HGZ:=Hd (hgy.q hqz);have hsy:y.heap.size = w.heap.size + 1:=by rw [hy];simp
 have hlz:Bk z y.heap.size 34 zL:=by rw [hz];exact Bk.new _ _ _
 rw [hsy] at hlz;have HLZ:=Hd hlz;have hz2:z = (w.alloc (.cells #[.int .i64 g0,.int .i64 g1,.int .i64 g2,.int .i64 g3,.int .i64 g4,.int .i64 g5] 23)).alloc (.cells #[.string ⟨#[]⟩,.string ⟨#[]⟩,.string ⟨#[]⟩,.string ⟨#[]⟩,.string ⟨#[]⟩,.string ⟨#[]⟩,.string ⟨#[]⟩,.string ⟨#[]⟩,.slice none 0 0,.slice none 0 0,.slice none 0 0,.slice none 0 0,.int .i64 0,.int .i64 0,.int .i64 0,.int .i64 0,.int .i64 0] 34):=by rw [hz,hy]
 clear hqy hgy hqz hsy hlz hz hy h0 h1 h2 h3 h4 h5 hn;go_enter Tryz.func9,Tryz.ntmps9
 go_upto_region 1 with fail
 rw [<- hz2];clear hz2;have cg0:=HGZ.out.cell 0 rfl;have cg1:=HGZ.out.cell 1 rfl;have cg2:=HGZ.out.cell 2 rfl;have cg3:=HGZ.out.cell 3 rfl;have cg4:=HGZ.out.cell 4 rfl;have cg5:=HGZ.out.cell 5 rfl;go_wp2_with fail
 clear cg0 cg1 cg2 cg3 cg4 cg5;refine (HLO.out _).mono ?_;rintro e w1 ⟨v,r,X,rfl,hok,hnew,⟨a,b,c,d,rfl,hl1⟩,hq1⟩;have HOK:=Hd hok;have HNW:=Hd hnew;have HQ1:=Hd (HQZ.out.trans hq1);have HL1:=Hd (HLZ.out.q hq1);obtain ⟨a1,a2,rfl⟩:=hl1.1.shape;obtain ⟨b1,b2,rfl⟩:=hl1.2.1.shape;obtain ⟨c1,c2,rfl⟩:=hl1.2.2.1.shape;obtain ⟨d1,d2,rfl⟩:=hl1.2.2.2.shape;have HLL:=Hd hl1;have HLV:Hid (lV r X (.slice a1 X.pre.length a2) (.slice b1 X.suf.length b2) (.slice c1 X.npre.length c2) (.slice d1 X.nsuf.length d2) = .agg #[.string (Lm.bs r.nam),.string (Lm.bs r.pat),.string (Lm.bs r.sys),.string (Lm.bs r.dec),.string (Lm.bs r.grp),.string (Lm.bs r.min),.string (Lm.bs r.per),.string (Lm.bs r.cur),.slice a1 X.pre.length a2,.slice b1 X.suf.length b2,.slice c1 X.npre.length c2,.slice d1 X.nsuf.length d2,.int .i64 X.pr,.int .i64 X.se,.int .i64 X.mi,.int .i64 X.mf,.int .i64 X.xf]):=Hd rfl;have HRV:Hid (recV r = .agg #[.string (Lm.bs r.nam),.string (Lm.bs r.pat),.string (Lm.bs r.sys),.string (Lm.bs r.dec),.string (Lm.bs r.grp),.string (Lm.bs r.min),.string (Lm.bs r.per),.string (Lm.bs r.cur)]):=Hd rfl;rw [HRV.out] at HNW;clear hl1 hok hnew hq1 HRV;have HFE:=Hd HLV.out.symm;unfold lV;generalize X.pre.length = n1 at *;generalize X.suf.length = n2 at *;generalize X.npre.length = n3 at *;generalize X.nsuf.length = n4 at *;generalize X.pr = p0 at *;generalize X.se = p1 at *;generalize X.mi = p2 at *;generalize X.mf = p3 at *;generalize X.xf = p4 at *;generalize Lm.bs r.nam = s0 at *;generalize Lm.bs r.pat = s1 at *;generalize Lm.bs r.sys = s2 at *;generalize Lm.bs r.dec = s3 at *;generalize Lm.bs r.grp = s4 at *;generalize Lm.bs r.min = s5 at *;generalize Lm.bs r.per = s6 at *;generalize Lm.bs r.cur = s7 at *;obtain ⟨w2,hw2⟩:∃ z,z = w1.alloc (.cells #[.string s0,.string s1,.string s2,.string s3,.string s4,.string s5,.string s6,.string s7,.slice a1 n1 a2,.slice b1 n2 b2,.slice c1 n3 c2,.slice d1 n4 d2,.int .i64 p0,.int .i64 p1,.int .i64 p2,.int .i64 p3,.int .i64 p4] 34):=⟨_,rfl⟩;have hq2:Q w1 w2:=by rw [hw2];exact (Q.refl _).alloc _
 have HX:=Hd (show Bk w2 w1.heap.size 34 [.string s0,.string s1,.string s2,.string s3,.string s4,.string s5,.string s6,.string s7,.slice a1 n1 a2,.slice b1 n2 b2,.slice c1 n3 c2,.slice d1 n4 d2,.int .i64 p0,.int .i64 p1,.int .i64 p2,.int .i64 p3,.int .i64 p4] by rw [hw2];exact Bk.new _ _ _);have HQ2:=Hd (HQ1.out.trans hq2);have HL2:=Hd (HL1.out.q hq2);have HLL2:=Hd (HLL.out.q hq2);obtain ⟨bX,hbX⟩:∃ b,b = w1.heap.size:=⟨_,rfl⟩;have HBX:=Hd (show bX ≠ w.heap.size + 1 by rw [hbX];have:=HL1.out.lt;omega);rw [<- hbX] at HX;clear hq2 HLL HLV;go_upto_region 2 with fail
 rw [<- hw2,<- hbX];clear hw2 hbX;have r0:=HX.out.cell 0 rfl;have r1:=HX.out.cell 1 rfl;have r2:=HX.out.cell 2 rfl;have r3:=HX.out.cell 3 rfl;have r4:=HX.out.cell 4 rfl;have r5:=HX.out.cell 5 rfl;have r6:=HX.out.cell 6 rfl;have r7:=HX.out.cell 7 rfl;go_wp2_with fail
 clear r0 r1 r2 r3 r4 r5 r6 r7;refine (HNW.out _).mono ?_;rintro e w3 ⟨g,a,b,c,d,cl,rfl,hlb,hq3⟩;have HBF:=Hd hlb;have HQ3:=Hd (HQ2.out.trans hq3);have HLF:=Hd (HL2.out.q hq3);have HXF:=Hd (HX.out.q hq3);have HLG:=Hd (HLL2.out.q hq3);clear hlb hq3;go_upto_region 3 with fail
 refine wp_region_held_drew (S:=fun u=>Q w u /\ Bk u bX 34 [.string s0,.string s1,.string s2,.string s3,.string s4,.string s5,.string s6,.string s7,.slice a1 n1 a2,.slice b1 n2 b2,.slice c1 n3 c2,.slice d1 n4 d2,.int .i64 p0,.int .i64 p1,.int .i64 p2,.int .i64 p3,.int .i64 p4]) (by kernel_rfl) (by exact ⟨HQ3.out.drew,HXF.out.q (Q.refl _).drew⟩) (fun hHeld=>?_);have hS:Q w w3.drew /\ Bk w3.drew bX 34 [.string s0,.string s1,.string s2,.string s3,.string s4,.string s5,.string s6,.string s7,.slice a1 n1 a2,.slice b1 n2 b2,.slice c1 n3 c2,.slice d1 n4 d2,.int .i64 p0,.int .i64 p1,.int .i64 p2,.int .i64 p3,.int .i64 p4]:=hHeld;clear hHeld;have hq:Q w3 w3.drew:=(Q.refl _).drew;have HLF:=Hd (Bk.q HLF.out hq);have HLG:=Hd (Ro.LL.q HLG.out hq);have HBF:=Hd (LB.q HBF.out hq);clear hq;generalize w3.drew = yR1x0 at *;change wpAnyH _ _ _ _ _ _ #[ff,ff,ff,ff] _ _;refine tk 0 (by simp only [gA,gB,gC];rfl) (by first | kernel_rfl | rfl) (fun uz _=>by go_simp;try with_reducible rfl) pq hS ?_;try simp only [Act.put,sA,sB,sC]
 refine tk 1 (by simp only [gA,gB,gC];rfl) (by first | kernel_rfl | rfl) (fun uz hSw=>by (try dsimp only at hSw);refine ld_row (x:=.tmp 6) ?_ ?_ hSw.2 Tryz.underlying34 (by exact infoL) <;> rfl) pq hS ?_
 try simp only [Act.put,sA,sB,sC]
 refine tk 2 (by simp only [gA,gB,gC];rfl) (by first | kernel_rfl | rfl) (fun uz _=>by go_simp;try with_reducible rfl) pq hS ?_;try simp only [Act.put,sA,sB,sC]
 refine wpAnyH_ready (rs:=[3]) (by kernel_rfl) (by simp) ?_;refine ar (by (try simp only [gA,gB,gC]);rfl) fun K hK=>?_;rw [if_pos (by rfl)];refine wp_store_row 34 _ _ rfl (w.heap.size + 1) #[.string s0,.string s1,.string s2,.string s3,.string s4,.string s5,.string s6,.string s7,.slice a1 n1 a2,.slice b1 n2 b2,.slice c1 n3 c2,.slice d1 n4 d2,.int .i64 p0,.int .i64 p1,.int .i64 p2,.int .i64 p3,.int .i64 p4] (by rfl) (by rfl) 34 _ HLF.out (by exact infoL) rfl (Rw.all1 (by rfl)) ?_;have hS2:=And.intro (Rw.Q_row hS.1 (Nat.le_succ w.heap.size) #[.string s0,.string s1,.string s2,.string s3,.string s4,.string s5,.string s6,.string s7,.slice a1 n1 a2,.slice b1 n2 b2,.slice c1 n3 c2,.slice d1 n4 d2,.int .i64 p0,.int .i64 p1,.int .i64 p2,.int .i64 p3,.int .i64 p4]) (Rw.Bk_other hS.2 HBX.out #[.string s0,.string s1,.string s2,.string s3,.string s4,.string s5,.string s6,.string s7,.slice a1 n1 a2,.slice b1 n2 b2,.slice c1 n3 c2,.slice d1 n4 d2,.int .i64 p0,.int .i64 p1,.int .i64 p2,.int .i64 p3,.int .i64 p4]);replace HLG:=Hd (LL_row HLF.out HLG.out #[.string s0,.string s1,.string s2,.string s3,.string s4,.string s5,.string s6,.string s7,.slice a1 n1 a2,.slice b1 n2 b2,.slice c1 n3 c2,.slice d1 n4 d2,.int .i64 p0,.int .i64 p1,.int .i64 p2,.int .i64 p3,.int .i64 p4]);replace HBF:=Hd (LB_row HLF.out HBF.out #[.string s0,.string s1,.string s2,.string s3,.string s4,.string s5,.string s6,.string s7,.slice a1 n1 a2,.slice b1 n2 b2,.slice c1 n3 c2,.slice d1 n4 d2,.int .i64 p0,.int .i64 p1,.int .i64 p2,.int .i64 p3,.int .i64 p4]);replace HLF:=Hd (Rw.Bk_row HLF.out [.string s0,.string s1,.string s2,.string s3,.string s4,.string s5,.string s6,.string s7,.slice a1 n1 a2,.slice b1 n2 b2,.slice c1 n3 c2,.slice d1 n4 d2,.int .i64 p0,.int .i64 p1,.int .i64 p2,.int .i64 p3,.int .i64 p4]);refine hK.out _ _ (by exact hS2) (fun hHeld=>?_);clear hK K hHeld hS;have hS:=hS2;clear hS2;generalize yR1x0.setRow (w.heap.size + 1) #[.string s0,.string s1,.string s2,.string s3,.string s4,.string s5,.string s6,.string s7,.slice a1 n1 a2,.slice b1 n2 b2,.slice c1 n3 c2,.slice d1 n4 d2,.int .i64 p0,.int .i64 p1,.int .i64 p2,.int .i64 p3,.int .i64 p4] = yR1x4 at *;try simp only [Act.put,sA,sB,sC]
 refine wpAnyH_done (by kernel_rfl) ?_ _;go_wp2_with fail
 exact ret_2 (l:=[.string s0,.string s1,.string s2,.string s3,.string s4,.string s5,.string s6,.string s7,.slice a1 n1 a2,.slice b1 n2 b2,.slice c1 n3 c2,.slice d1 n4 d2,.int .i64 p0,.int .i64 p1,.int .i64 p2,.int .i64 p3,.int .i64 p4]) rfl Tryz.underlying34 (by exact infoL) rfl rfl HLF.out rfl ⟨r,X,_,_,HOK.out,rfl,⟨_,_,_,_,_,_,rfl,HBF.out⟩,⟨_,_,_,_,HFE.out,HLG.out⟩,hS.1⟩
end Sx
end
section
namespace Im
open Um Cm Gm
def pln (l:List UInt8):Bool:=okL l && plainB (allL l)
theorem ok_marks {a:List UInt8} (h:okL a = true) (b:List UInt8):marks (a ++ b) = marks a ++ marks b:=by
 have e:=join_ok a h;have hv:=allL_vld a;have h1:=marks_join (allL a) b hv;rw [e] at h1;have h2:=marks_join0 (allL a) hv;rw [e] at h2;rw [h1,<- h2]
theorem allL_app {a:List UInt8} (h:okL a = true) (b:List UInt8):allL (a ++ b) = allL a ++ allL b:=by
 unfold allL;rw [ok_marks h b,List.map_append]
theorem okL_app {a b:List UInt8} (h:okL a = true) (k:okL b = true):okL (a ++ b) = true:=by
 unfold okL at *;rw [ok_marks h b,List.all_append,h,k];rfl
theorem plain_iff (l:List Int):plainB l = true ↔ (∀ c ∈ l,cls c = 0 \/ cls c = 4) /\ ∃ c r,l = c :: r /\ cls c = 0:=by
 unfold plainB plP;cases l with
 | nil=>simp
 | cons c r =>
  simp only [List.all_cons,Bool.and_eq_true,Bool.or_eq_true,beq_iff_eq,List.all_eq_true,decide_eq_true_eq,List.length_cons,List.mem_cons,List.cons.injEq];constructor
  ·rintro ⟨⟨⟨h1,h2⟩,h3⟩,_⟩
   refine ⟨fun x hx=>?_,c,r,⟨rfl,rfl⟩,h3⟩;rcases hx with rfl | hx
   ·exact h1
   ·exact h2 x hx
  ·rintro ⟨h1,c',r',⟨rfl,rfl⟩,h3⟩
   exact ⟨⟨⟨h1 c (.inl rfl),fun x hx=>h1 x (.inr hx)⟩,h3⟩,by omega⟩
theorem plain_app {a b:List Int} (h:plainB a = true) (k:∀ c ∈ b,cls c = 0 \/ cls c = 4):plainB (a ++ b) = true:=by
 rw [plain_iff] at *;obtain ⟨h1,c,r,rfl,h2⟩:=h;refine ⟨fun x hx=>?_,c,r ++ b,rfl,h2⟩;rcases List.mem_append.1 hx with hx | hx
 ·exact h1 x hx
 ·exact k x hx
theorem pln_app {a b:List UInt8} (h:pln a = true) (k:pln b = true):pln (a ++ b) = true:=by
 unfold pln at *;simp only [Bool.and_eq_true] at *;refine ⟨okL_app h.1 k.1,?_⟩;rw [allL_app h.1];exact plain_app h.2 ((plain_iff _).1 k.2).1
theorem pln_ne {a:List UInt8} (h:pln a = true):a ≠ []:=by
 rintro rfl;unfold pln at h;simp only [Bool.and_eq_true] at h;obtain ⟨_,c,r,h2,_⟩:=(plain_iff _).1 h.2;cases h2
theorem jn_zero (t:St) (h:t.k ≠ 7):jn t 0 = false:=by
 obtain ⟨a,d,s,o⟩:=t;simp only at h;have hs:sylB a 0 = false:=by
  unfold sylB;split
  ·decide
  ·split
   ·decide
   ·split <;> decide
 unfold jn pairB;simp only [show decide ((0:Int) = 14) = false from rfl,show decide ((0:Int) = 6) = false from rfl,Bool.and_false,Bool.or_false];split
 ·rfl
 ·rw [if_neg (by omega)]
  split
  ·rfl
  ·simp [h,hs]
theorem stL_k7 (X:List Int) (h:∀ c ∈ X,cls c ≠ 7):(stL X).k ≠ 7:=by
 cases hX:X with
 | nil=>decide
 | cons c r =>
  have hne:X ≠ []:=by rw [hX];simp
  obtain ⟨s,d,hs⟩:∃ s d,X = s ++ [d]:=⟨X.dropLast,X.getLast hne,(List.dropLast_concat_getLast hne).symm⟩;rw [<- hX,hs,stL_snoc];have h7:=h d (by rw [hs];simp);show ((cls d:Nat):Int) ≠ 7;omega
theorem pln_pcs {a b:ByteArray} (h:pln a.data.toList = true) (k:pln b.data.toList = true):pcs (a ++ b) = pcs a ++ pcs b:=by
 have hne:=pln_ne k;unfold pln at h k;simp only [Bool.and_eq_true] at h k;refine pcs_part a b (ok_marks h.1 _) (fun _=>?_);obtain ⟨_,c,r,hc,h0⟩:=(plain_iff _).1 k.2;have e:(mrk b.data.toList).1 = c:=by
  unfold allL at hc;rw [marks_cons _ hne,List.map_cons] at hc;exact (List.cons.inj hc).1
 rw [e,h0];refine jn_zero _ ?_;unfold stMs;refine stL_k7 _ (fun x hx=>?_);have:=((plain_iff _).1 h.2).1 x hx;omega
theorem pcs_emp:pcs ⟨#[]⟩ = []:=by
 have h:(pcs ⟨#[]⟩).length = 0:=by rw [pcs_length];rw [begL_zero]
 exact List.eq_nil_of_length_eq_zero h
theorem bs_app (a b:List UInt8):(⟨(a ++ b).toArray⟩:ByteArray) = (⟨a.toArray⟩:ByteArray) ++ ⟨b.toArray⟩:=by
 apply ByteArray.ext;rw [ByteArray.data_append];apply Array.ext';simp
theorem pcs_tx:∀ (l:List E),(∀ e ∈ l,pln e.2.1.data.toList = true) -> pcs ⟨(txI l).toArray⟩ = l.flatMap (fun e=>pcs e.2.1) /\ (txI l = [] \/ pln (txI l) = true)
 | [],_=>⟨pcs_emp,.inl rfl⟩
 | e :: l,h=>by
  obtain ⟨h1,h2⟩:=pcs_tx l (fun x hx=>h x (List.mem_cons_of_mem _ hx));have he:=h e List.mem_cons_self;have ht:txI (e :: l) = e.2.1.data.toList ++ txI l:=by unfold txI;rw [List.flatMap_cons]
  have hb:(⟨(e.2.1.data.toList).toArray⟩:ByteArray) = e.2.1:=by
   apply ByteArray.ext;simp
  rw [ht,List.flatMap_cons,<- h1];rcases h2 with h2 | h2
  ·rw [h2,List.append_nil,hb,pcs_emp,List.append_nil]
   exact ⟨rfl,.inr he⟩
  ·refine ⟨?_,.inr (pln_app he h2)⟩
   rw [bs_app,hb];exact pln_pcs he (by simpa using h2)
def pE (l:List UInt8):Prop:=l = [] \/ pln l = true
theorem pE_app {a b:List UInt8} (h:pE a) (k:pE b):pE (a ++ b):=by
 rcases h with rfl | h
 ·simpa using k
 ·rcases k with rfl | k
  ·rw [List.append_nil];exact .inr h
  ·exact .inr (pln_app h k)
theorem pE_flat {α:Type} (f:α -> List UInt8):∀ l:List α,(∀ x ∈ l,pE (f x)) -> pE (l.flatMap f)
 | [],_=>.inl rfl
 | x :: l,h=>by
  rw [List.flatMap_cons];exact pE_app (h x List.mem_cons_self) (pE_flat f l fun y hy=>h y (List.mem_cons_of_mem _ hy))
theorem word_pln {l:List UInt8} (h:Lm.wordB l = true):pln l = true /\ l.length <= 16:=by
 unfold Lm.wordB at h;simp only [Bool.and_eq_true,decide_eq_true_eq] at h;exact ⟨by unfold pln;simp only [Bool.and_eq_true];exact h.2,h.1⟩
theorem sym_pln {l:List UInt8} (h:Lm.symB l = true):pln l = true /\ l.length <= 16:=by
 unfold Lm.symB at h;simp only [Bool.and_eq_true] at h;exact word_pln h.1
theorem ptx_pE {r:Lm.Rec} {X:Pt.Pat} (h:It.LOk r X) {A:List Pc.E} (hA:A ∈ Lm.affs X) {x:Pc.E} (hx:x ∈ A):pE (Lm.ptx r x):=by
 have h1:=(h.ok.aff A hA).2 x hx;unfold Lm.ptx;by_cases h0:x.1 = 0
 ·rw [if_pos h0]
  refine .inr ?_;unfold pln;rw [h.tx A hA x hx,h1.2.2.1 h0];rfl
 ·rw [if_neg h0]
  by_cases h2:x.1 = 1
  ·rw [if_pos h2]
   rcases h.ok.cur with hw | hw
   ·exact .inr (word_pln hw).1
   ·exact .inl hw.1
  ·rw [if_neg h2]
   by_cases h3:x.1 = 2
   ·rw [if_pos h3]
    rcases h.ok.per with hw | hw
    ·exact .inr (word_pln hw).1
    ·exact .inl hw.1
   ·rw [if_neg h3];exact .inl rfl
theorem atx_pE {r:Lm.Rec} {X:Pt.Pat} (h:It.LOk r X) {A:List Pc.E} (hA:A ∈ Lm.affs X) (B:List Pc.E) (hB:∀ x ∈ B,x ∈ A):pE (Lm.atx r B) :=
 pE_flat _ B fun x hx=>ptx_pE h hA (hB x hx)
theorem parP_mem {r:Lm.Rec} {A:List Pc.E} {p:Pb.E} (h:p ∈ Lo.parP r A):p.1 = true \/ ∃ B,p.2 = Lm.atx r B /\ (∀ x ∈ B,x ∈ A) /\ p.2.length <= (Lm.atx r A).length:=by
 unfold Lo.parP at h;split at h
 ·have h1:=(List.mem_filter.1 h).1
  simp only [List.mem_cons,List.not_mem_nil,or_false] at h1;subst h1;exact .inr ⟨A,rfl,fun x hx=>hx,Nat.le_refl _⟩
 ·have h1:=(List.mem_filter.1 h).1
  simp only [List.mem_cons,List.not_mem_nil,or_false] at h1;rcases h1 with rfl | rfl | rfl
  ·exact .inr ⟨_,rfl,fun x hx=>List.mem_of_mem_take hx,(Lo.atx_le r A _).1⟩
  ·exact .inl rfl
  ·exact .inr ⟨_,rfl,fun x hx=>List.mem_of_mem_drop hx,(Lo.atx_le r A _).2⟩
def okT (t:ByteArray):Prop:=pln t.data.toList = true /\ t.size <= 64
theorem bs_okT {l:List UInt8} (h:pln l = true) (hl:l.length <= 64):okT (Lm.bs l):=⟨by rw [Lm.bs_list];exact h,by rw [Lm.bs_size];exact hl⟩
theorem aff_okT {r:Lm.Rec} {X:Pt.Pat} (h:It.LOk r X) {A:List Pc.E} (hA:A ∈ Lm.affs X) {p:Pb.E} (hp:p ∈ Lo.parP r A):okT (affE r p).2.1:=by
 have hf:=Ro.parP_fact r A (Ro.cnt_le r X A h.ok hA) (fun x hx h3=>((h.ok.aff A hA).2 x hx).2.2.2 (by omega));unfold affE;by_cases h1:p.1 = true
 ·rw [if_pos h1]
  obtain ⟨h2,h3⟩:=sym_pln h.ok.min;exact bs_okT h2 (by omega)
 ·rw [if_neg h1]
  rcases parP_mem hp with h2 | ⟨B,h2,h3,h4⟩
  ·exact absurd h2 h1
  ·have hlen:=h.ok.len A hA
   refine bs_okT ?_ (by omega);rcases atx_pE h hA B h3 with h5 | h5
   ·have h6:=hf.1 p hp
    rw [h2,h5] at h6;exact absurd h6 h1
   ·rw [h2];exact h5
theorem dig_cls:∀ p ∈ Sm.tab,∀ d:Nat,d < 10 -> cls (p.2 + (d:Int)) = 0 /\ vld (p.2 + (d:Int)) = true /\ (enc (p.2 + (d:Int))).length <= 4:=by decide +kernel
theorem dgt_okT {r:Lm.Rec} {X:Pt.Pat} (h:It.LOk r X) (x:Int) (h0:0 <= x) (h9:x <= 9):okT (Lm.dgt r x.toNat):=by
 have hz:=h.ok.sys;rcases Sm.nz_cases r.sys with hn | hn
 ·omega
 ·obtain ⟨h1,h2,h3⟩:=dig_cls _ hn x.toNat (by omega)
  dsimp only at h1 h2 h3;rw [Ro.dgt_enc hz x.toNat (by omega)];have he:=encB_list _ h2;generalize Sm.nz r.sys + (x.toNat:Int) = c0 at *;refine ⟨?_,?_⟩
  ·rw [he]
   have hj:joinL [c0] = enc c0:=by
    unfold joinL;rw [List.flatMap_cons,List.flatMap_nil,List.append_nil,Um.one,if_pos h2]
   have hvv:∀ c ∈ [c0],vld c = true:=by
    intro c hc;simp only [List.mem_cons,List.not_mem_nil,or_false] at hc;subst hc;exact h2
   unfold pln;rw [<- hj,okL_join _ hvv,allL_join _ hvv];unfold plainB plP;simp [h1]
  ·rw [<- size_list,he];omega
theorem grp_okT {r:Lm.Rec} {X:Pt.Pat} (h:It.LOk r X) {l:Int} {e:E} (he:e ∈ grpI r l X.pr X.se):okT e.2.1:=by
 unfold grpI at he;split at he
 ·rename_i hb
  simp only [List.mem_cons,List.not_mem_nil,or_false] at he;subst he;have hp:0 < X.pr:=by
   by_cases hp:X.pr < 1
   ·rw [endB_out (.inl hp)] at hb;cases hb
   ·omega
  obtain ⟨h2,h3⟩:=sym_pln (h.ok.grp1 hp);exact bs_okT h2 (by omega)
 ·cases he
theorem wh_okT {r:Lm.Rec} {X:Pt.Pat} (h:It.LOk r X) {I:List Int} (hI:Dm.okD I):∀ k,∀ e ∈ whI r X.pr X.se I k,okT e.2.1
 | 0,e,he=>by cases he
 | k + 1,e,he=>by
  rw [whI_succ] at he;rcases List.mem_append.1 he with he | he
  ·exact wh_okT h hI k e he
  ·rcases List.mem_cons.1 he with rfl | he
   ·have hd:=digit_at hI k
    exact dgt_okT h _ hd.1 hd.2
   ·exact grp_okT h he
theorem re_okT {r:Lm.Rec} {X:Pt.Pat} (h:It.LOk r X) {F:List Int} (hF:Dm.okD F) (n:Nat):∀ k,∀ e ∈ reI r n F k,okT e.2.1
 | 0,e,he=>by
  rw [reI_zero] at he;simp only [List.mem_cons,List.not_mem_nil,or_false] at he;subst he;obtain ⟨h2,h3⟩:=sym_pln h.ok.dec;exact bs_okT h2 (by omega)
 | k + 1,e,he=>by
  rw [reI_succ] at he;rcases List.mem_append.1 he with he | he
  ·exact re_okT h hF n k e he
  ·simp only [List.mem_cons,List.not_mem_nil,or_false] at he
   subst he;have hd:=digit_at hF k;exact dgt_okT h _ hd.1 hd.2
theorem itm_okT {r:Lm.Rec} {X:Pt.Pat} (h:It.LOk r X) {d:Tm.T} (hI:Dm.okD d.i) (hF:Dm.okD d.f) (g:Bool):∀ e ∈ itm r X.pr X.se d (Lo.parP r (Ro.ahd g X)) (Lo.parP r (Ro.bhd g X)),okT e.2.1:=by
 have hm1:Ro.ahd g X ∈ Lm.affs X:=by cases g <;> simp [Ro.ahd,Lm.affs]
 have hm2:Ro.bhd g X ∈ Lm.affs X:=by cases g <;> simp [Ro.bhd,Lm.affs]
 intro e he;unfold itm at he;rcases List.mem_append.1 he with he | he
 ·rcases List.mem_append.1 he with he | he
  ·rcases List.mem_append.1 he with he | he
   ·obtain ⟨p,hp,rfl⟩:=List.mem_map.1 he
    exact aff_okT h hm1 hp
   ·exact wh_okT h hI _ e he
  ·unfold resI at he
   split at he
   ·exact re_okT h hF _ _ e he
   ·cases he
 ·obtain ⟨p,hp,rfl⟩:=List.mem_map.1 he
  exact aff_okT h hm2 hp
theorem tx_len:∀ (l:List E),(∀ e ∈ l,okT e.2.1) -> (txI l).length <= 64 * l.length
 | [],_=>Nat.le_refl _
 | e :: l,h=>by
  have h1:=tx_len l fun x hx=>h x (List.mem_cons_of_mem _ hx);have h2:=(h e List.mem_cons_self).2;have ht:txI (e :: l) = e.2.1.data.toList ++ txI l:=by unfold txI;rw [List.flatMap_cons]
  rw [ht,List.length_append,size_list,List.length_cons];omega
end Im
end
end Go.Proofs.YtdjhkbholijnmaaGreatDoor
