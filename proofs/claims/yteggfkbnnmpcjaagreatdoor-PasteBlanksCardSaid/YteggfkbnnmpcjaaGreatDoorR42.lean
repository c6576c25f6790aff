/- What is looked at in a record, one closure behind the other: nothing is wrong. (and more) -/
import Derived.Test.YteggfkbnnmpcjaaGreatDoorR41
import Derived.Test.YteggfkbnnmpcjaaGreatDoorR39
set_option linter.all false
set_option maxRecDepth 100000
set_option maxHeartbeats 8000000
namespace Go.Proofs.YteggfkbnnmpcjaaGreatDoor
section
open Go.RowKit
namespace Lo
open Um Cm Gm
def EnvL (u:World) (g rb lp ep:Nat) (r:Lm.Rec) (X:Pt.Pat) (a b c d cl:Value):Prop :=
 LB u g r X a b c d cl /\ Bk u rb 70 (recC r) /\ Bk u lp 24 [.pointer (some ⟨g,0,none⟩)] /\ Bk u ep 48 [.int .i64 0]
theorem EnvL.q {u u':World} {g rb lp ep:Nat} {r:Lm.Rec} {X:Pt.Pat} {a b c d cl:Value} (h:EnvL u g rb lp ep r X a b c d cl) (hq:Q u u'):EnvL u' g rb lp ep r X a b c d cl :=
 ⟨h.1.q hq,h.2.1.q hq,h.2.2.1.q hq,h.2.2.2.q hq⟩
theorem nd_take {l:List ByteArray} (h:l.Nodup) {k:Nat} {x:ByteArray} (hk:l[k]? = some x):x ∉ l.take k:=by
 intro hm;obtain ⟨hl,e⟩:=List.getElem?_eq_some_iff.1 hk;rw [<- List.take_append_drop k l,List.nodup_append] at h;have h2:x ∈ l.drop k:=by rw [List.drop_eq_getElem_cons hl,e];exact List.mem_cons_self
 exact h.2.2 x hm x h2 rfl
theorem sgn_no {r:Lm.Rec} {X:Pt.Pat} (hO:Lm.Ok r X) {x:ByteArray} (h:x ∈ Lm.clus r X):Lm.sgn r x = -1:=by
 unfold Lm.sgn;split
 ·rfl
 ·exact Lm.plc_none _ _ (hO.cl x h)
theorem sym_len {l:List UInt8} (h:Lm.symB l = true):l.length <= 16:=by
 unfold Lm.symB Lm.wordB at h;simp only [Bool.and_eq_true,decide_eq_true_eq] at h;exact h.1.1
theorem word_len {l:List UInt8} (h:Lm.wordB l = true):l.length <= 16:=by
 unfold Lm.wordB at h;simp only [Bool.and_eq_true,decide_eq_true_eq] at h;exact h.1
theorem lk1 {u:World} {g rb lp ep:Nat} {r:Lm.Rec} {X:Pt.Pat} {a b c d cl:Value} (hO:Lm.Ok r X) (hE:EnvL u g rb lp ep r X a b c d cl) :
  Calls Tryz.prog 92 #[.pointer (some ⟨rb,0,none⟩)] u fun e w'=>e = .returned (.bool false) /\ Q u w':=by
 have hx:=named_ok (Lm.bs r.nam) u (by rw [Lm.bs_size];exact hO.nam1.1) (by rw [Lm.bs_size];exact hO.nam1.2) (by rw [Lm.bs_list];exact hO.nam);have HX:=Hd hx;have c0:=hE.2.1.cell 0 rfl;generalize Lm.bs r.nam = S at *;clear hx;clear hO hE;go_enter Tryz.func92,Tryz.ntmps92
 go_wp2_with fail
 refine HX.out.mono ?_;rintro e w1 ⟨rfl,hq1⟩;go_wp2_with fail
 go_ret
 exact ⟨rfl,hq1⟩
theorem lk2 {u:World} {g rb lp ep:Nat} {r:Lm.Rec} {X:Pt.Pat} {a b c d cl:Value} (hO:Lm.Ok r X) (hE:EnvL u g rb lp ep r X a b c d cl) :
  Calls Tryz.prog 94 #[.pointer (some ⟨ep,0,none⟩)] u fun e w'=>e = .returned (.bool false) /\ Q u w':=by
 have c0:=hE.2.2.2.cell 0 rfl;clear hO hE;go_enter Tryz.func94,Tryz.ntmps94
 go_wp2_with fail
 go_ret
 exact ⟨rfl,Q.refl _⟩
theorem lk3 {u:World} {g rb lp ep:Nat} {r:Lm.Rec} {X:Pt.Pat} {a b c d cl:Value} (hO:Lm.Ok r X) (hE:EnvL u g rb lp ep r X a b c d cl) :
  Calls Tryz.prog 95 #[.pointer (some ⟨lp,0,none⟩)] u fun e w'=>e = .returned (.bool false) /\ Q u w':=by
 have hl:∀ A ∈ Lm.affs X,A.length <= 1000000:=fun A hA=>by have:=(hO.aff A hA).1;omega
 have hx:Calls Tryz.prog 96 #[.pointer (some ⟨g,0,none⟩)] u fun e w'=>e = .returned (.bool true) /\ Q u w':=by
  obtain ⟨h1,h2,h3⟩:=hO.sg;by_cases h4:Lm.cnt 3 X.npre = 1
  ·exact signed_ahead g r X a b c d cl u hE.1 hl h1 h2 h4 (by omega)
  ·exact signed_behind g r X a b c d cl u hE.1 hl h1 h2 (by omega) (by omega)
 have HX:=Hd hx;have c0:=hE.2.2.1.cell 0 rfl;clear hx hl;clear hO hE;go_enter Tryz.func95,Tryz.ntmps95
 go_wp2_with fail
 refine HX.out.mono ?_;rintro e w1 ⟨rfl,hq1⟩;go_wp2_with fail
 go_ret
 exact ⟨rfl,hq1⟩
theorem lk4 {u:World} {g rb lp ep:Nat} {r:Lm.Rec} {X:Pt.Pat} {a b c d cl:Value} (hO:Lm.Ok r X) (hE:EnvL u g rb lp ep r X a b c d cl) :
  Calls Tryz.prog 97 #[.pointer (some ⟨rb,0,none⟩)] u fun e w'=>e = .returned (.bool false) /\ Q u w':=by
 have hx:=known_ok (Lm.bs r.sys) u (by rw [Lm.bs_size];have:=hO.sysl;unfold maxLen;omega) (by rw [Lm.bs_list];have:=hO.sys;omega);have HX:=Hd hx;have c0:=hE.2.1.cell 2 rfl;generalize Lm.bs r.sys = S at *;clear hx;clear hO hE;go_enter Tryz.func97,Tryz.ntmps97
 go_wp2_with fail
 refine HX.out.mono ?_;rintro e w1 ⟨rfl,hq1⟩;go_wp2_with fail
 go_ret
 exact ⟨rfl,hq1⟩
theorem lk5 {u:World} {g rb lp ep:Nat} {r:Lm.Rec} {X:Pt.Pat} {a b c d cl:Value} (hO:Lm.Ok r X) (hE:EnvL u g rb lp ep r X a b c d cl) :
  Calls Tryz.prog 99 #[.pointer (some ⟨rb,0,none⟩)] u fun e w'=>e = .returned (.bool false) /\ Q u w':=by
 have hx:=symbol_any (Lm.bs r.dec) u (by rw [Lm.bs_size];have:=sym_len hO.dec;omega);rw [Lm.bs_list,hO.dec] at hx;have HX:=Hd hx;have c0:=hE.2.1.cell 3 rfl;generalize Lm.bs r.dec = S at *;clear hx;clear hO hE;go_enter Tryz.func99,Tryz.ntmps99
 go_wp2_with fail
 refine HX.out.mono ?_;rintro e w1 ⟨rfl,hq1⟩;go_wp2_with fail
 go_ret
 exact ⟨rfl,hq1⟩
theorem lk7 {u:World} {g rb lp ep:Nat} {r:Lm.Rec} {X:Pt.Pat} {a b c d cl:Value} (hO:Lm.Ok r X) (hE:EnvL u g rb lp ep r X a b c d cl) :
  Calls Tryz.prog 103 #[.pointer (some ⟨rb,0,none⟩)] u fun e w'=>e = .returned (.bool false) /\ Q u w':=by
 have hx:=symbol_any (Lm.bs r.min) u (by rw [Lm.bs_size];have:=sym_len hO.min;omega);rw [Lm.bs_list,hO.min] at hx;have HX:=Hd hx;have c0:=hE.2.1.cell 5 rfl;generalize Lm.bs r.min = S at *;clear hx;clear hO hE;go_enter Tryz.func103,Tryz.ntmps103
 go_wp2_with fail
 refine HX.out.mono ?_;rintro e w1 ⟨rfl,hq1⟩;go_wp2_with fail
 go_ret
 exact ⟨rfl,hq1⟩
theorem lk6 {u:World} {g rb lp ep:Nat} {r:Lm.Rec} {X:Pt.Pat} {a b c d cl:Value} (hO:Lm.Ok r X) (hE:EnvL u g rb lp ep r X a b c d cl) :
  Calls Tryz.prog 101 #[.pointer (some ⟨lp,0,none⟩)] u fun e w'=>e = .returned (.bool false) /\ Q u w':=by
 have hx:Calls Tryz.prog 102 #[.pointer (some ⟨g,0,none⟩)] u fun e w'=>e = .returned (.bool true) /\ Q u w':=by
  by_cases hp:0 < X.pr
  ·exact grouped_yes g r X a b c d cl u hE.1 hp (hO.grp1 hp) (by have:=sym_len (hO.grp1 hp);omega)
  ·exact grouped_no g r X a b c d cl u hE.1 hp (hO.grp0 hp)
 have HX:=Hd hx;have c0:=hE.2.2.1.cell 0 rfl;clear hx;clear hO hE;go_enter Tryz.func101,Tryz.ntmps101
 go_wp2_with fail
 refine HX.out.mono ?_;rintro e w1 ⟨rfl,hq1⟩;go_wp2_with fail
 go_ret
 exact ⟨rfl,hq1⟩
theorem lk8 {u:World} {g rb lp ep:Nat} {r:Lm.Rec} {X:Pt.Pat} {a b c d cl:Value} (hO:Lm.Ok r X) (hE:EnvL u g rb lp ep r X a b c d cl) :
  Calls Tryz.prog 104 #[.pointer (some ⟨lp,0,none⟩),.pointer (some ⟨rb,0,none⟩)] u fun e w'=>e = .returned (.bool false) /\ Q u w':=by
 have hl:∀ A ∈ Lm.affs X,A.length <= 1000000:=fun A hA=>by have:=(hO.aff A hA).1;omega
 have hx:Calls Tryz.prog 105 #[.pointer (some ⟨g,0,none⟩),.string (Lm.bs r.per),.int .i64 2] u fun e w'=>e = .returned (.bool true) /\ Q u w':=by
  rcases hO.per with h | ⟨h0,h⟩
  ·exact worded_yes g r.per 2 u (by have:=word_len h;omega) h
  ·rw [h0]
   exact worded_none g r X a b c d cl 2 u hE.1 hl h
 have HX:=Hd hx;have c0:=hE.2.2.1.cell 0 rfl;have c1:=hE.2.1.cell 6 rfl;generalize Lm.bs r.per = S at *;clear hx hl;clear hO hE;go_enter Tryz.func104,Tryz.ntmps104
 go_wp2_with fail
 refine HX.out.mono ?_;rintro e w1 ⟨rfl,hq1⟩;go_wp2_with fail
 go_ret
 exact ⟨rfl,hq1⟩
theorem lk9 {u:World} {g rb lp ep:Nat} {r:Lm.Rec} {X:Pt.Pat} {a b c d cl:Value} (hO:Lm.Ok r X) (hE:EnvL u g rb lp ep r X a b c d cl) :
  Calls Tryz.prog 106 #[.pointer (some ⟨lp,0,none⟩),.pointer (some ⟨rb,0,none⟩)] u fun e w'=>e = .returned (.bool false) /\ Q u w':=by
 have hl:∀ A ∈ Lm.affs X,A.length <= 1000000:=fun A hA=>by have:=(hO.aff A hA).1;omega
 have hx:Calls Tryz.prog 105 #[.pointer (some ⟨g,0,none⟩),.string (Lm.bs r.cur),.int .i64 1] u fun e w'=>e = .returned (.bool true) /\ Q u w':=by
  rcases hO.cur with h | ⟨h0,h⟩
  ·exact worded_yes g r.cur 1 u (by have:=word_len h;omega) h
  ·rw [h0]
   exact worded_none g r X a b c d cl 1 u hE.1 hl h
 have HX:=Hd hx;have c0:=hE.2.2.1.cell 0 rfl;have c1:=hE.2.1.cell 7 rfl;generalize Lm.bs r.cur = S at *;clear hx hl;clear hO hE;go_enter Tryz.func106,Tryz.ntmps106
 go_wp2_with fail
 refine HX.out.mono ?_;rintro e w1 ⟨rfl,hq1⟩;go_wp2_with fail
 go_ret
 exact ⟨rfl,hq1⟩
theorem lk12 {u:World} {g rb lp ep:Nat} {r:Lm.Rec} {X:Pt.Pat} {a b c d cl:Value} (hO:Lm.Ok r X) (hE:EnvL u g rb lp ep r X a b c d cl) :
  Calls Tryz.prog 113 #[.pointer (some ⟨lp,0,none⟩)] u fun e w'=>e = .returned (.bool false) /\ Q u w':=by
 have hx:=taken_no g r X a b c d cl 10 (Lm.bs r.dec) u hE.1 (by omega) rfl (nd_take hO.dis rfl);have HX:=Hd hx;have c0:=hE.2.2.1.cell 0 rfl;clear hx;clear hO hE;go_enter Tryz.func113,Tryz.ntmps113
 go_wp2_with fail
 refine HX.out.mono ?_;rintro e w1 ⟨rfl,hq1⟩;go_wp2_with fail
 go_ret
 exact ⟨rfl,hq1⟩
theorem lk13 {u:World} {g rb lp ep:Nat} {r:Lm.Rec} {X:Pt.Pat} {a b c d cl:Value} (hO:Lm.Ok r X) (hE:EnvL u g rb lp ep r X a b c d cl) :
  Calls Tryz.prog 115 #[.pointer (some ⟨lp,0,none⟩)] u fun e w'=>e = .returned (.bool false) /\ Q u w':=by
 have hx:=taken_no g r X a b c d cl 11 (Lm.bs r.grp) u hE.1 (by omega) rfl (nd_take hO.dis rfl);have HX:=Hd hx;have c0:=hE.2.2.1.cell 0 rfl;clear hx;clear hO hE;go_enter Tryz.func115,Tryz.ntmps115
 go_wp2_with fail
 refine HX.out.mono ?_;rintro e w1 ⟨rfl,hq1⟩;go_wp2_with fail
 go_ret
 exact ⟨rfl,hq1⟩
theorem lk14 {u:World} {g rb lp ep:Nat} {r:Lm.Rec} {X:Pt.Pat} {a b c d cl:Value} (hO:Lm.Ok r X) (hE:EnvL u g rb lp ep r X a b c d cl) :
  Calls Tryz.prog 116 #[.pointer (some ⟨lp,0,none⟩)] u fun e w'=>e = .returned (.bool false) /\ Q u w':=by
 have hx:=taken_no g r X a b c d cl 12 (Lm.bs r.min) u hE.1 (by omega) rfl (nd_take hO.dis rfl);have HX:=Hd hx;have c0:=hE.2.2.1.cell 0 rfl;clear hx;clear hO hE;go_enter Tryz.func116,Tryz.ntmps116
 go_wp2_with fail
 refine HX.out.mono ?_;rintro e w1 ⟨rfl,hq1⟩;go_wp2_with fail
 go_ret
 exact ⟨rfl,hq1⟩
theorem lk10 {u:World} {g rb lp ep:Nat} {r:Lm.Rec} {X:Pt.Pat} {a b c d cl:Value} (hO:Lm.Ok r X) (hE:EnvL u g rb lp ep r X a b c d cl) :
  Calls Tryz.prog 107 #[.pointer (some ⟨lp,0,none⟩)] u fun e w'=>e = .returned (.bool false) /\ Q u w':=by
 have HA:=Hd (affixes_any g r X a b c d cl u hE.1);have c0:=hE.2.2.1.cell 0 rfl;have HN:=Hd (fun u2 v (hq:Q u u2) (hv:GLst id u2 v [a,b,c,d])=>noL 110 #[] #[] (enters_of Tryz.func110 (by kernel_rfl) rfl) v [a,b,c,d] u2 hv (aff_len a b c d) (fun k x hx u3 hq3=>by
  obtain ⟨A,_,hm,hv2⟩:=aff_at (hE.1.q (hq.trans hq3)) hx;have h10:=hO.aff A hm;exact rough_no x A u3 hv2 (by omega) (fun y hy=>⟨by have:=(h10.2 y hy).2.1;omega,(h10.2 y hy).2.2.1⟩)))
 clear hO hE;go_enter Tryz.func107,Tryz.ntmps107
 go_wp2_with fail
 refine HA.out.mono ?_;rintro e w1 ⟨v1,rfl,hv1,hq1⟩;obtain ⟨va,vc,rfl⟩:=hv1.shape;go_wp2_with fail
 refine (HN.out _ _ hq1 hv1).mono ?_;rintro e w2 ⟨rfl,hq2⟩;go_wp2_with fail
 go_ret
 exact ⟨rfl,hq1.trans hq2⟩
theorem lk11 {w0:World} {g rb lp ep:Nat} {r:Lm.Rec} {X:Pt.Pat} {a b c d cl:Value} (hO:Lm.Ok r X) (hE:EnvL w0 g rb lp ep r X a b c d cl) :
  Calls Tryz.prog 111 #[.pointer (some ⟨lp,0,none⟩)] w0 fun e w'=>e = .returned (.bool false) /\ Q w0 w':=by
 have HA:=Hd (fun u2 (hq:Q w0 u2)=>affixes_any g r X a b c d cl u2 (hE.1.q hq));have HN:=Hd (fun u2 v (hq:Q w0 u2) (hv:GLst id u2 v [a,b,c,d])=>noL 112 #[.pointer (some ⟨g,0,none⟩)] #[] (enters_of Tryz.func112 (by kernel_rfl) rfl) v [a,b,c,d] u2 hv (aff_len a b c d) (fun k x hx u3 hq3=>by
  obtain ⟨A,_,hm,hv2⟩:=aff_at (hE.1.q (hq.trans hq3)) hx;have h10:=hO.aff A hm;exact long_ok g r X a b c d cl x A u3 (hE.1.q (hq.trans hq3)) hv2 (by omega) (hO.len A hm)))
 have HBL:=Hd hE.2.2.1;clear hO hE;go_enter Tryz.func111,Tryz.ntmps111
 go_upto_region 1 with fail
 refine wp_region_held_drew (S:=fun u=>Q w0 u) (by kernel_rfl) (by exact (Q.refl w0).drew) (fun hHeld=>?_);have hS:Q w0 w0.drew:=hHeld;clear hHeld;have hq:Q w0 w0.drew:=(Q.refl _).drew;clear hq;generalize w0.drew = yR1x0 at *;refine tk 0 (by simp only [gA,gB,gC];rfl) (by first | kernel_rfl | rfl) (fun uz hSw=>by (try dsimp only at hSw);have kb:=HBL.out.q hSw;have k0:=kb.cell 0 rfl;clear kb;go_simp;try with_reducible rfl) pq hS ?_;try simp only [Act.put,sA,sB,sC]
 refine tk 2 (by simp only [gA,gB,gC];rfl) (by first | kernel_rfl | rfl) (fun uz hSw=>by (try dsimp only at hSw);have kb:=HBL.out.q hSw;have k0:=kb.cell 0 rfl;clear kb;go_simp;try with_reducible rfl) pq hS ?_;try simp only [Act.put,sA,sB,sC]
 refine tk 3 (by simp only [gA,gB,gC];rfl) (by first | kernel_rfl | rfl) (fun uz _=>by go_simp;try with_reducible rfl) pq hS ?_;try simp only [Act.put,sA,sB,sC]
 refine wpAnyH_ready (rs:=[1]) (by kernel_rfl) (by simp) ?_;refine ar rfl fun K hK=>?_;go_simp
 refine (HA.out _ hS).mono ?_;rintro e yR1x4 ⟨v1,rfl,hv1,hq⟩;have HV1:=Hd hv1;obtain ⟨va,vc,rfl⟩:=hv1.shape;clear hv1;try (go_wp2_with fail)
 have hS2:=Q.trans hS hq;refine hK.out _ _ (by exact hS2) (fun hHeld=>?_);clear hK K hHeld hS hq;have hS:=hS2;clear hS2;try simp only [Act.put,sA,sB,sC]
 refine wpAnyH_ready (rs:=[4]) (by kernel_rfl) (by simp) ?_;refine ar rfl fun K hK=>?_;go_simp
 refine (HN.out _ _ hS HV1.out).mono ?_;rintro e yR1x5 ⟨rfl,hq⟩;try (go_wp2_with fail)
 have HV1:=Hd (GLst.q HV1.out hq);have hS2:=Q.trans hS hq;refine hK.out _ _ (by exact hS2) (fun hHeld=>?_);clear hK K hHeld hS hq;have hS:=hS2;clear hS2;try simp only [Act.put,sA,sB,sC]
 refine tk 5 (by simp only [gA,gB,gC];rfl) (by first | kernel_rfl | rfl) (fun uz _=>by go_simp;try with_reducible rfl) pq hS ?_;try simp only [Act.put,sA,sB,sC]
 refine wpAnyH_done (by kernel_rfl) ?_ _;have HQ:=Hd hS;clear hS;go_wp2_with fail
 try (rename_i dx1 d1 hx1;have hy1:(some 1:Option Tmp) = some d1:=hx1;obtain rfl:=Option.some.inj hy1;clear hx1 hy1)
 go_ret
 exact ⟨rfl,HQ.out⟩
theorem clus_len {r:Lm.Rec} {X:Pt.Pat} (hO:Lm.Ok r X):(Lm.clus r X).length <= 1000000:=by
 have h:∀ A ∈ Lm.affs X,(pcs (Lm.bs (Lm.atx r A))).length <= 64:=fun A hA=>by
  rw [pcs_length];have h1:=begL_length (Lm.bs (Lm.atx r A)).data.toList;have h2:=hO.len A hA;rw [Lm.bs_list] at h1 |-;omega
 have e:Lm.clus r X = pcs (Lm.bs (Lm.atx r X.pre)) ++ (pcs (Lm.bs (Lm.atx r X.suf)) ++ (pcs (Lm.bs (Lm.atx r X.npre)) ++ (pcs (Lm.bs (Lm.atx r X.nsuf)) ++ []))):=rfl;rw [e];have h1:=h X.pre (by simp [Lm.affs]);have h2:=h X.suf (by simp [Lm.affs]);have h3:=h X.npre (by simp [Lm.affs]);have h4:=h X.nsuf (by simp [Lm.affs]);simp only [List.length_append,List.length_nil];omega
theorem lk15 {w0:World} {g rb lp ep:Nat} {r:Lm.Rec} {X:Pt.Pat} {a b c d cl:Value} (hO:Lm.Ok r X) (hE:EnvL w0 g rb lp ep r X a b c d cl) :
  Calls Tryz.prog 117 #[.pointer (some ⟨lp,0,none⟩)] w0 fun e w'=>e = .returned (.bool false) /\ Q w0 w':=by
 have hl:∀ A ∈ Lm.affs X,A.length <= 1000000 /\ (Lm.atx r A).length <= 1000000:=fun A hA=>⟨by have:=(hO.aff A hA).1;omega,by have:=hO.len A hA;omega⟩;have HA:=Hd (fun u2 (hq:Q w0 u2)=>split_any g r X a b c d cl u2 (hE.1.q hq) hl);have hcl:(Lm.clus r X).length <= 1000000:=clus_len hO;have HN:=Hd (fun u2 B v (hq:Q w0 u2) (hv:SOwn u2 B v (Lm.clus r X))=>noS 119 #[.pointer (some ⟨g,0,none⟩)] #[] (enters_of Tryz.func119 (by kernel_rfl) rfl) v (Lm.clus r X) u2 hv.lst hcl (fun k x hx u3 hq3=>symbol_none g r X a b c d cl x u3 (hE.1.q (hq.trans hq3)) (sgn_no hO (List.mem_of_getElem? hx))));clear hl hcl;generalize Lm.clus r X = CS at *;have HBL:=Hd hE.2.2.1;clear hO hE;go_enter Tryz.func117,Tryz.ntmps117
 go_upto_region 1 with fail
 refine wp_region_held_drew (S:=fun u=>Q w0 u) (by kernel_rfl) (by exact (Q.refl w0).drew) (fun hHeld=>?_);have hS:Q w0 w0.drew:=hHeld;clear hHeld;have hq:Q w0 w0.drew:=(Q.refl _).drew;clear hq;generalize w0.drew = yR2x0 at *;refine tk 0 (by simp only [gA,gB,gC];rfl) (by first | kernel_rfl | rfl) (fun uz hSw=>by (try dsimp only at hSw);have kb:=HBL.out.q hSw;have k0:=kb.cell 0 rfl;clear kb;go_simp;try with_reducible rfl) pq hS ?_;try simp only [Act.put,sA,sB,sC]
 refine tk 2 (by simp only [gA,gB,gC];rfl) (by first | kernel_rfl | rfl) (fun uz hSw=>by (try dsimp only at hSw);have kb:=HBL.out.q hSw;have k0:=kb.cell 0 rfl;clear kb;go_simp;try with_reducible rfl) pq hS ?_;try simp only [Act.put,sA,sB,sC]
 refine tk 3 (by simp only [gA,gB,gC];rfl) (by first | kernel_rfl | rfl) (fun uz _=>by go_simp;try with_reducible rfl) pq hS ?_;try simp only [Act.put,sA,sB,sC]
 refine wpAnyH_ready (rs:=[1]) (by kernel_rfl) (by simp) ?_;refine ar rfl fun K hK=>?_;go_simp
 refine (HA.out _ hS).mono ?_;rintro e yR2x4 ⟨v1,rfl,hv1,hq⟩;have HV1:=Hd hv1;obtain ⟨va,vc,rfl⟩:=hv1.lst.shape;clear hv1;try (go_wp2_with fail)
 have hS2:=Q.trans hS hq;refine hK.out _ _ (by exact hS2) (fun hHeld=>?_);clear hK K hHeld hS hq;have hS:=hS2;clear hS2;try simp only [Act.put,sA,sB,sC]
 refine wpAnyH_ready (rs:=[4]) (by kernel_rfl) (by simp) ?_;refine ar rfl fun K hK=>?_;go_simp
 refine (HN.out _ _ _ hS HV1.out).mono ?_;rintro e yR2x5 ⟨rfl,hq⟩;try (go_wp2_with fail)
 have HV1:=Hd (GOwn.q HV1.out hq);have hS2:=Q.trans hS hq;refine hK.out _ _ (by exact hS2) (fun hHeld=>?_);clear hK K hHeld hS hq;have hS:=hS2;clear hS2;try simp only [Act.put,sA,sB,sC]
 refine tk 5 (by simp only [gA,gB,gC];rfl) (by first | kernel_rfl | rfl) (fun uz _=>by go_simp;try with_reducible rfl) pq hS ?_;try simp only [Act.put,sA,sB,sC]
 refine wpAnyH_done (by kernel_rfl) ?_ _;have HQ:=Hd hS;clear hS;go_wp2_with fail
 try (rename_i dx1 d1 hx1;have hy1:(some 1:Option Tmp) = some d1:=hx1;obtain rfl:=Option.some.inj hy1;clear hx1 hy1)
 go_ret
 exact ⟨rfl,HQ.out⟩
end Lo
end
section
open Go.RowKit
namespace Lo
open Um Cm Gm
def arK (r:Lm.Rec) (k:Nat):List Value:=[.string (if 0 < k then Lm.dgt r 0 else ⟨#[]⟩),.string (if 1 < k then Lm.dgt r 1 else ⟨#[]⟩),.string (if 2 < k then Lm.dgt r 2 else ⟨#[]⟩),.string (if 3 < k then Lm.dgt r 3 else ⟨#[]⟩),.string (if 4 < k then Lm.dgt r 4 else ⟨#[]⟩),.string (if 5 < k then Lm.dgt r 5 else ⟨#[]⟩),.string (if 6 < k then Lm.dgt r 6 else ⟨#[]⟩),.string (if 7 < k then Lm.dgt r 7 else ⟨#[]⟩),.string (if 8 < k then Lm.dgt r 8 else ⟨#[]⟩),.string (if 9 < k then Lm.dgt r 9 else ⟨#[]⟩),.string (Lm.bs r.dec),.string (Lm.bs r.grp),.string (Lm.bs r.min)]
theorem arK_set (r:Lm.Rec) (k:Nat) (hk:k < 10):(arK r k).set k (.string (Lm.dgt r k)) = arK r (k + 1):=by
 match k,hk with
 | 0,_=>rfl
 | 1,_=>rfl
 | 2,_=>rfl
 | 3,_=>rfl
 | 4,_=>rfl
 | 5,_=>rfl
 | 6,_=>rfl
 | 7,_=>rfl
 | 8,_=>rfl
 | 9,_=>rfl
theorem arK_at (r:Lm.Rec) (k:Nat) (hk:k < 10):(arK r k)[k]? = some (.string ⟨#[]⟩):=by
 match k,hk with
 | 0,_=>rfl
 | 1,_=>rfl
 | 2,_=>rfl
 | 3,_=>rfl
 | 4,_=>rfl
 | 5,_=>rfl
 | 6,_=>rfl
 | 7,_=>rfl
 | 8,_=>rfl
 | 9,_=>rfl
@[reducible] def symV (r:Lm.Rec):Value:=.agg #[.string (Lm.dgt r 0),.string (Lm.dgt r 1),.string (Lm.dgt r 2),.string (Lm.dgt r 3),.string (Lm.dgt r 4),.string (Lm.dgt r 5),.string (Lm.dgt r 6),.string (Lm.dgt r 7),.string (Lm.dgt r 8),.string (Lm.dgt r 9),.string (Lm.bs r.dec),.string (Lm.bs r.grp),.string (Lm.bs r.min)]
theorem ret_ba {fn:Func} {p:Tmp} {T:TypeId} (h:fn.results = #[.cell p T]) {R:Ending -> World -> Prop} {a:Act} {w:World} {g:Nat} {l:List Value} {n:Nat} {e:TypeId}
  (hu:Tryz.prog.underlying T = some (.array n e)) (hi:(Tryz.prog.info? T).map (·.size) = some l.length)
  (hp:a.tmps.getD p undef = .pointer (some ⟨g,0,none⟩)) (hg:Bk w g T l) (hdf:a.defers = []) (hR:R (.returned (.agg l.toArray)) w):bodyPost Tryz.prog fn R .ret a w :=
 bodyPost_ret (results_cell_row h a.tmps w g T l.toArray (0,0) _ hp hg hu rfl (by simpa using hi)) hdf hR
theorem info13:(Tryz.prog.info? 107).map (·.size) = some 13:=by kernel_rfl
theorem symbolsOf_any (r:Lm.Rec) (w:World) (hl:r.sys.length <= 16) :
  Calls Tryz.prog 56 #[recV r] w fun e w'=>e = .returned (symV r) /\ Q w w':=by
 have HD:=Hd (fun (k:Nat) u=>Sy.digit_any (Lm.bs r.sys) (k:Int) u (by rw [Lm.bs_size];unfold maxLen;omega));rw [Lm.bs_list] at HD;have HDG:Hid (∀ k:Nat,Sm.dgS (Sm.nz r.sys) (k:Int) = Lm.dgt r k):=Hd (fun _=>rfl);have HSET:=Hd (arK_set r);have HAT:=Hd (arK_at r);have HE:Hid (arK r 10 = [.string (Lm.dgt r 0),.string (Lm.dgt r 1),.string (Lm.dgt r 2),.string (Lm.dgt r 3),.string (Lm.dgt r 4),.string (Lm.dgt r 5),.string (Lm.dgt r 6),.string (Lm.dgt r 7),.string (Lm.dgt r 8),.string (Lm.dgt r 9),.string (Lm.bs r.dec),.string (Lm.bs r.grp),.string (Lm.bs r.min)]):=Hd rfl;have HK0:Hid (arK r 0 = [.string ⟨#[]⟩,.string ⟨#[]⟩,.string ⟨#[]⟩,.string ⟨#[]⟩,.string ⟨#[]⟩,.string ⟨#[]⟩,.string ⟨#[]⟩,.string ⟨#[]⟩,.string ⟨#[]⟩,.string ⟨#[]⟩,.string (Lm.bs r.dec),.string (Lm.bs r.grp),.string (Lm.bs r.min)]):=Hd rfl;unfold recV symV;obtain ⟨d0,hd0⟩:∃ x,x = Lm.dgt r 0:=⟨_,rfl⟩;obtain ⟨d1,hd1⟩:∃ x,x = Lm.dgt r 1:=⟨_,rfl⟩;obtain ⟨d2,hd2⟩:∃ x,x = Lm.dgt r 2:=⟨_,rfl⟩;obtain ⟨d3,hd3⟩:∃ x,x = Lm.dgt r 3:=⟨_,rfl⟩;obtain ⟨d4,hd4⟩:∃ x,x = Lm.dgt r 4:=⟨_,rfl⟩;obtain ⟨d5,hd5⟩:∃ x,x = Lm.dgt r 5:=⟨_,rfl⟩;obtain ⟨d6,hd6⟩:∃ x,x = Lm.dgt r 6:=⟨_,rfl⟩;obtain ⟨d7,hd7⟩:∃ x,x = Lm.dgt r 7:=⟨_,rfl⟩;obtain ⟨d8,hd8⟩:∃ x,x = Lm.dgt r 8:=⟨_,rfl⟩;obtain ⟨d9,hd9⟩:∃ x,x = Lm.dgt r 9:=⟨_,rfl⟩;rw [<- hd0,<- hd1,<- hd2,<- hd3,<- hd4,<- hd5,<- hd6,<- hd7,<- hd8,<- hd9] at HE |-;generalize Lm.bs r.nam = s0 at *;generalize Lm.bs r.pat = s1 at *;generalize Lm.bs r.sys = s2 at *;generalize Lm.bs r.dec = s3 at *;generalize Lm.bs r.grp = s4 at *;generalize Lm.bs r.min = s5 at *;generalize Lm.bs r.per = s6 at *;generalize Lm.bs r.cur = s7 at *;generalize arK r = AR at *;generalize Lm.dgt r = DG at *;generalize Sm.nz r.sys = Z at *;clear hl hd0 hd1 hd2 hd3 hd4 hd5 hd6 hd7 hd8 hd9;obtain ⟨z,hz⟩:∃ z,z = ((w.alloc (.cells #[.string s0,.string s1,.string s2,.string s3,.string s4,.string s5,.string s6,.string s7] 70)).alloc (.cells #[.string ⟨#[]⟩,.string ⟨#[]⟩,.string ⟨#[]⟩,.string ⟨#[]⟩,.string ⟨#[]⟩,.string ⟨#[]⟩,.string ⟨#[]⟩,.string ⟨#[]⟩,.string ⟨#[]⟩,.string ⟨#[]⟩,.string ⟨#[]⟩,.string ⟨#[]⟩,.string ⟨#[]⟩] 107)).alloc (.cells #[.string ⟨#[]⟩,.string ⟨#[]⟩,.string ⟨#[]⟩,.string ⟨#[]⟩,.string ⟨#[]⟩,.string ⟨#[]⟩,.string ⟨#[]⟩,.string ⟨#[]⟩,.string ⟨#[]⟩,.string ⟨#[]⟩,.string s3,.string s4,.string s5] 107):=⟨_,rfl⟩;have HQZ:=Hd (show Q w z by rw [hz];exact (((Q.refl w).alloc _).alloc _).alloc _);have HB1:=Hd (show Bk z w.heap.size 70 [.string s0,.string s1,.string s2,.string s3,.string s4,.string s5,.string s6,.string s7] by rw [hz];exact ((Bk.new w _ _).q ((Q.refl _).alloc _)).q ((Q.refl _).alloc _));have HB2:=Hd (show Bk z (w.heap.size + 1) 107 [.string ⟨#[]⟩,.string ⟨#[]⟩,.string ⟨#[]⟩,.string ⟨#[]⟩,.string ⟨#[]⟩,.string ⟨#[]⟩,.string ⟨#[]⟩,.string ⟨#[]⟩,.string ⟨#[]⟩,.string ⟨#[]⟩,.string ⟨#[]⟩,.string ⟨#[]⟩,.string ⟨#[]⟩] by rw [hz,<- alloc_size w (.cells #[.string s0,.string s1,.string s2,.string s3,.string s4,.string s5,.string s6,.string s7] 70)];exact (Bk.new _ _ _).q ((Q.refl _).alloc _));have HB3:=Hd (show Bk z (w.heap.size + 1 + 1) 107 (AR 0) by rw [HK0.out,hz,<- alloc_size w (.cells #[.string s0,.string s1,.string s2,.string s3,.string s4,.string s5,.string s6,.string s7] 70),<- alloc_size (w.alloc (.cells #[.string s0,.string s1,.string s2,.string s3,.string s4,.string s5,.string s6,.string s7] 70)) (.cells #[.string ⟨#[]⟩,.string ⟨#[]⟩,.string ⟨#[]⟩,.string ⟨#[]⟩,.string ⟨#[]⟩,.string ⟨#[]⟩,.string ⟨#[]⟩,.string ⟨#[]⟩,.string ⟨#[]⟩,.string ⟨#[]⟩,.string ⟨#[]⟩,.string ⟨#[]⟩,.string ⟨#[]⟩] 107)];exact Bk.new _ _ _);go_enter Tryz.func56,Tryz.ntmps56
 go_wp2_with fail
 rw [<- hz];clear hz HK0;obtain ⟨B,hB⟩:∃ B,B = w.heap.size:=⟨_,rfl⟩;have HBW:=Hd (show w.heap.size <= B by omega);rw [<- hB] at HB1 HB2 HB3 |-;clear hB;obtain ⟨b2,hb2⟩:∃ b,b = B + 1:=⟨_,rfl⟩;obtain ⟨b3,hb3⟩:∃ b,b = B + 1 + 1:=⟨_,rfl⟩;have H2:=Hd (show w.heap.size <= b2 by have:=HBW.out;omega);have H3:=Hd (show w.heap.size <= b3 by have:=HBW.out;omega);have N31:=Hd (show b3 ≠ B by omega);have N32:=Hd (show b3 ≠ b2 by omega);rw [<- hb3] at HB3 |-;rw [<- hb2] at HB2 |-;clear hb2 hb3;go_loopw [12] (fun i wr=>∃ k:Nat,i = .int .i64 k /\ k <= 10 /\ Bk wr b3 107 (AR k) /\ Bk wr B 70 [.string s0,.string s1,.string s2,.string s3,.string s4,.string s5,.string s6,.string s7] /\ Bk wr b2 107 [.string ⟨#[]⟩,.string ⟨#[]⟩,.string ⟨#[]⟩,.string ⟨#[]⟩,.string ⟨#[]⟩,.string ⟨#[]⟩,.string ⟨#[]⟩,.string ⟨#[]⟩,.string ⟨#[]⟩,.string ⟨#[]⟩,.string ⟨#[]⟩,.string ⟨#[]⟩,.string ⟨#[]⟩] /\ Q w wr) (fun i _=>10 - (intOf i).toNat)
 case atStart=>exact ⟨0,rfl,by omega,HB3.out,HB1.out,HB2.out,HQZ.out⟩
 case round =>
  obtain ⟨k,rfl,hk,h3,h1,h2,hq⟩:=hrel;by_cases hlt:k < 10
  ·have hlti:(k:Int) < 10:=by omega
   have c2:=h1.cell 2 rfl;have hk0:¬ (k:Int) < 0:=by omega
   have hk13:(k:Int) < 13:=by omega
   have hk13n:k < 13:=by omega
   have HH3:=Hd h3;have HH1:=Hd h1;have HH2:=Hd h2;clear h1 h2 h3;go_wp2_with fail
   refine (HD.out k _).mono ?_;rintro e w1 ⟨rfl,hq1⟩;rw [HDG.out k];have hb3:=HH3.out.q hq1;have c3:=hb3.cell k (HAT.out k hlt);have f3:=hb3.free k;have HF3:=Hd (hb3.set k (.string (DG k)));have HF1:=Hd ((HH1.out.q hq1).past N31.out (i:=k) (.string (DG k)));have HF2:=Hd ((HH2.out.q hq1).past N32.out (i:=k) (.string (DG k)));have HFQ:=Hd (Q.setCell (hq.trans hq1) (ad:=⟨b3,k,none⟩) H3.out (.string (DG k)));rw [HSET.out k hlt] at HF3;clear hb3;go_wp2_with fail
   exact ⟨⟨k + 1,by go_num,by omega,HF3.out,HF1.out,HF2.out,HFQ.out⟩,by simp [intOf];omega⟩
  ·have hnlt:¬ (k:Int) < 10:=by omega
   obtain rfl:k = 10:=by omega
   rw [HE.out] at h3;have c0:=h3.cell 0 rfl;have p0:=h2.cell 0 rfl;have f0:=h2.free 0;have c1:=h3.cell 1 rfl;have p1:=h2.cell 1 rfl;have f1:=h2.free 1;have c2:=h3.cell 2 rfl;have p2:=h2.cell 2 rfl;have f2:=h2.free 2;have c3:=h3.cell 3 rfl;have p3:=h2.cell 3 rfl;have f3:=h2.free 3;have c4:=h3.cell 4 rfl;have p4:=h2.cell 4 rfl;have f4:=h2.free 4;have c5:=h3.cell 5 rfl;have p5:=h2.cell 5 rfl;have f5:=h2.free 5;have c6:=h3.cell 6 rfl;have p6:=h2.cell 6 rfl;have f6:=h2.free 6;have c7:=h3.cell 7 rfl;have p7:=h2.cell 7 rfl;have f7:=h2.free 7;have c8:=h3.cell 8 rfl;have p8:=h2.cell 8 rfl;have f8:=h2.free 8;have c9:=h3.cell 9 rfl;have p9:=h2.cell 9 rfl;have f9:=h2.free 9;have c10:=h3.cell 10 rfl;have p10:=h2.cell 10 rfl;have f10:=h2.free 10;have c11:=h3.cell 11 rfl;have p11:=h2.cell 11 rfl;have f11:=h2.free 11;have c12:=h3.cell 12 rfl;have p12:=h2.cell 12 rfl;have f12:=h2.free 12;have HFB:=Hd (((((((((((((h2.set 0 (.string d0)).set 1 (.string d1)).set 2 (.string d2)).set 3 (.string d3)).set 4 (.string d4)).set 5 (.string d5)).set 6 (.string d6)).set 7 (.string d7)).set 8 (.string d8)).set 9 (.string d9)).set 10 (.string s3)).set 11 (.string s4)).set 12 (.string s5));have HFQ:=Hd (Q.setCell (Q.setCell (Q.setCell (Q.setCell (Q.setCell (Q.setCell (Q.setCell (Q.setCell (Q.setCell (Q.setCell (Q.setCell (Q.setCell (Q.setCell hq (ad:=⟨b2,0,none⟩) H2.out (.string d0)) (ad:=⟨b2,1,none⟩) H2.out (.string d1)) (ad:=⟨b2,2,none⟩) H2.out (.string d2)) (ad:=⟨b2,3,none⟩) H2.out (.string d3)) (ad:=⟨b2,4,none⟩) H2.out (.string d4)) (ad:=⟨b2,5,none⟩) H2.out (.string d5)) (ad:=⟨b2,6,none⟩) H2.out (.string d6)) (ad:=⟨b2,7,none⟩) H2.out (.string d7)) (ad:=⟨b2,8,none⟩) H2.out (.string d8)) (ad:=⟨b2,9,none⟩) H2.out (.string d9)) (ad:=⟨b2,10,none⟩) H2.out (.string s3)) (ad:=⟨b2,11,none⟩) H2.out (.string s4)) (ad:=⟨b2,12,none⟩) H2.out (.string s5));clear h1 h2 h3;go_wp2_with fail
   refine ret_ba rfl Tryz.underlying107 (by exact info13) rfl HFB.out rfl ⟨?_,HFQ.out⟩;rfl
end Lo
end
end Go.Proofs.YteggfkbnnmpcjaaGreatDoor
