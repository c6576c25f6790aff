/- The document's example of paste. (and more) -/
import Derived.Test.YteggfkbnnmpcjaaGreatDoorR51
set_option linter.all false
set_option maxRecDepth 100000
set_option maxHeartbeats 8000000
namespace Go.Proofs.YteggfkbnnmpcjaaGreatDoor
section
open Go.RowKit
namespace Ps
open Um Cm Gm Lo Lm
def dpC:List Int:=[35,44,35,35,48,46,48,48,32,164]
def dr:Rec:=⟨[100,101],[35,44,35,35,48,46,48,48,32,194,164],[108,97,116,110],[44],[46],[45],[],[226,130,172]⟩
def dX:Pt.Pat:=⟨[],[(0,[32]),(1,[])],[(3,[])],[(0,[32]),(1,[])],3,3,1,2,2⟩
theorem dp_eq:joinL dpC = dr.pat /\ Pt.parseC dpC = (dX,0):=by decide +kernel
theorem d_nam:∀ b ∈ dr.nam,(97 <= b.toNat /\ b.toNat <= 122) \/ (65 <= b.toNat /\ b.toNat <= 90) \/ b.toNat = 45:=by decide +kernel
theorem d_nam1:1 <= dr.nam.length /\ dr.nam.length <= 16:=by decide +kernel
theorem d_aff:(affs dX).all (fun A=>decide (A.length <= 10) && A.all (fun x=>decide (0 <= x.1 /\ x.1 <= 3) && (decide (x.2.length <= 10) && ((x.1 != 0 || Cm.plainB (Um.allL x.2)) && (x.1 == 0 || x.2 == []))))) = true:=by decide +kernel
theorem d_len:∀ A ∈ affs dX,(atx dr A).length <= 64:=by decide +kernel
theorem d_nz:0 <= Sm.nz dr.sys /\ dr.sys.length <= 16:=by decide +kernel
theorem d_s:symB dr.dec = true /\ symB dr.min = true /\ symB dr.grp = true /\ wordB dr.cur = true:=by decide +kernel
theorem d_k:∀ A ∈ affs dX,cnt 2 A = 0:=by decide +kernel
theorem d_sg:cnt 3 dX.pre = 0 /\ cnt 3 dX.suf = 0 /\ cnt 3 dX.npre + cnt 3 dX.nsuf = 1 /\ 0 <= dX.pr:=by decide +kernel
theorem d_cl:(affs dX).all (fun A=>(Gm.pcs (bs (atx dr A))).all fun c=>notin c (syms dr)) = true:=by decide +kernel
theorem d_dis:(syms dr).Nodup:=by decide +kernel
theorem d_ne:(syms dr).all (fun x=>decide (0 < x.size)) = true:=by decide +kernel
theorem dr_ok:Ok dr dX where
 nam:=d_nam
 nam1:=d_nam1
 sg:=⟨d_sg.1,d_sg.2.1,d_sg.2.2.1⟩
 sys:=d_nz.1
 sysl:=d_nz.2
 dec:=d_s.1
 min:=d_s.2.1
 pr:=d_sg.2.2.2
 grp1:=fun _=>d_s.2.2.1
 grp0:=fun h=>absurd (show 0 < dX.pr by decide) h
 per:=.inr ⟨rfl,d_k⟩
 cur:=.inl d_s.2.2.2
 aff:=fun A hA=>by
  have h:=List.all_eq_true.1 d_aff A hA;simp only [Bool.and_eq_true,decide_eq_true_eq,List.all_eq_true,Bool.or_eq_true,bne_iff_ne,beq_iff_eq] at h;refine ⟨h.1,fun x hx=>?_⟩;obtain ⟨h1,h2,h3,h4⟩:=h.2 x hx;exact ⟨h1,h2,fun h0=>h3.resolve_left (fun k=>k h0),fun h0=>h4.resolve_left h0⟩
 len:=d_len
 dis:=d_dis
 ne:=fun i x h h11=>by
  have:=List.all_eq_true.1 d_ne x (List.mem_of_getElem? h);simpa using this
 cl:=fun x hx=>by
  unfold clus at hx;obtain ⟨A,hA,hxA⟩:=List.mem_flatMap.1 hx;exact of_notin (List.all_eq_true.1 (List.all_eq_true.1 d_cl A hA) x hxA)
theorem dr_par (u:World):Calls Tryz.prog 55 #[.string (bs dr.pat)] u fun e w'=>∃ v,e = .returned (.tuple #[v,.int .i64 0]) /\ Pg.PV w' u.heap.size v dX /\ Q u w':=by
 have h:=Pg.parse1 (cs:=dpC) (by decide +kernel) (by decide +kernel) (P:=[]) (N:=[(4,35),(4,44),(4,35),(4,35),(4,48),(4,46),(4,48),(4,48)]) (S:=[(0,32),(1,164)]) (c:=false) (by decide +kernel) ⟨(by unfold Pt.okT;decide +kernel),(by unfold Pt.okT;decide +kernel),(by decide +kernel)⟩ (by decide +kernel) (by decide +kernel) (by decide +kernel) u;rw [dp_eq.1,dp_eq.2] at h;exact h
def dex:ByteArray:=⟨#[45,32,49,46,50,51,52,44,53,48,32,226,130,172]⟩
theorem dex_clip:clip dr dX dex = (true,[1,2,3,4,10,5,0],0):=by decide +kernel
theorem d_few:(clus dr dX).length <= 1073741824:=by decide +kernel
theorem lives_any (w:World):Calls Tryz.prog 13 #[] w fun e w'=>e = .returned (.bool true) /\ Q w w':=by
 have HN:Hid (∀ u,Calls Tryz.prog 26 #[.agg #[.string ⟨#[100,101]⟩,.string ⟨#[35,44,35,35,48,46,48,48,32,194,164]⟩,.string ⟨#[108,97,116,110]⟩,.string ⟨#[44]⟩,.string ⟨#[46]⟩,.string ⟨#[45]⟩,.string ⟨#[]⟩,.string ⟨#[226,130,172]⟩]] u fun e w'=>∃ g a b c d cl,e = .returned (.tuple #[.pointer (some ⟨g,0,none⟩),Value.nilIface]) /\ LB w' g dr dX a b c d cl /\ SLst w' cl (Lm.clus dr dX) /\ Q u w'):=Hd (fun u=>new_ok dr dX u dr_ok dr_par);go_enter Tryz.func13,Tryz.ntmps13
 go_wp2_with fail
 refine (HN.out _).mono ?_;rintro e w1 ⟨g,a,b,c,d,cl,rfl,hB,hC,hq1⟩;have h1:=read_any g dr dX a b c d cl dex w1 hB hC d_few (by decide);rw [dex_clip] at h1;have H1:=Hd (show Calls Tryz.prog 16 #[.pointer (some ⟨g,0,none⟩),.string ⟨#[45,32,49,46,50,51,52,44,53,48,32,226,130,172]⟩] w1 fun e w'=>∃ v,e = .returned (.tuple #[.agg #[.bool true,v],.int .i64 0]) /\ Lst w' v [1,2,3,4,10,5,0] /\ Q w1 w' from h1);have HQ1:=Hd hq1;clear hB hC hq1 HN h1;go_wp2_with fail
 refine H1.out.mono ?_;rintro e w2 ⟨v,rfl,hl,hq2⟩;obtain ⟨va,vc,rfl⟩:=hl.shape;simp only [List.length_cons,List.length_nil] at hl |-;obtain ⟨w3,hw3⟩:∃ u,u = w2.alloc (.cells #[.bool true,.slice va 7 vc] 47):=⟨_,rfl⟩;have hq3:Q w2 w3:=by rw [hw3];exact (Q.refl _).alloc _
 have hb3:Bk w3 w2.heap.size 47 [.bool true,.slice va 7 vc]:=by rw [hw3];exact Bk.new _ _ _
 obtain ⟨b3,hbb⟩:∃ b,b = w2.heap.size:=⟨_,rfl⟩;rw [<- hbb] at hb3;have x0:=hb3.cell 0 rfl;have x1:=hb3.cell 1 rfl;have HQ3:=Hd (HQ1.out.trans (hq2.trans hq3));have HL3:=Hd (hl.q hq3);have HB3:=Hd hb3;clear hl hq2 hq3 H1 hb3;go_upto_region 5 with fail
 rw [<- hw3,<- hbb];clear hw3 hbb;have hqa:Q w3 (w3.alloc (.cells #[.int .i64 1,.int .i64 2,.int .i64 3,.int .i64 4,.int .i64 10,.int .i64 5,.int .i64 0] 3)):=(Q.refl _).alloc _;have HE1:=Hd (Ur.same_any _ _ [1,2,3,4,10,5,0] [1,2,3,4,10,5,0] _ (HL3.out.q hqa) (Lst.made w3 [1,2,3,4,10,5,0] 7 rfl (by unfold maxLen;omega)) (by decide) (by decide));have HQA:=Hd (HQ3.out.trans hqa);clear hqa;go_wp2_with fail
 refine HE1.out.mono ?_;rintro e w6 ⟨rfl,hq6⟩;have HQ6:=Hd (HQA.out.trans hq6);clear hq6;go_wp2_with fail
 go_ret
 exact ⟨by simp,HQ6.out⟩
end Ps
end
section
namespace Ps
open Um Cm Gm Im Sx
def sevB:ByteArray:=⟨#[55]⟩
def ctlB:ByteArray:=⟨#[1]⟩
def Sev (r:Lm.Rec):Prop:=Lm.sgn r sevB = -1 \/ Lm.sgn r sevB = 7
instance (r:Lm.Rec):Decidable (Sev r):=by unfold Sev;infer_instance
theorem plc_app (x:ByteArray) (b:List ByteArray) (hb:x ∉ b):∀ (a:List ByteArray) (k:Nat),Lm.plc x (a ++ b) k = Lm.plc x a k
 | [],k=>Lm.plc_none b k hb
 | y :: a,k=>by
  rw [List.cons_append,Lm.plc,Lm.plc,plc_app x b hb a]
theorem sev_digs:∀ s,s < 20 -> Lm.plc sevB (Lm.digs s) 0 = -1 \/ Lm.plc sevB (Lm.digs s) 0 = 7:=by decide +kernel
theorem sev_oth:Lm.notin sevB Lm.others = true:=by decide +kernel
theorem sev_mk {r:Lm.Rec} {X:Pt.Pat} (h:Ro.IsMk r X):Sev r:=by
 obtain ⟨s,p,d,m,u,c,q,hs,hp,hd,hm,hu,hc,hq,rfl,rfl⟩:=h;have hg:=Lm.mk_isG (s:=s) (p:=p) (d:=d) (m:=m) (u:=u) (c:=c) (q:=q) hq;have e:Lm.sgn (Lm.mk s p d m u c q) sevB = Lm.plc sevB (Lm.digs s) 0:=by
  unfold Lm.sgn;rw [if_neg (by decide)];show Lm.plc sevB (Lm.digs s ++ [Lm.bs (Lm.decL.getD d []),Lm.bs (Lm.mk s p d m u c q).grp,Lm.bs (Lm.minL.getD m [])]) 0 = _;refine plc_app _ _ (fun hx=>?_) _ _;have ho:=Lm.of_notin sev_oth;simp only [List.mem_cons,List.not_mem_nil,or_false] at hx;rcases hx with hx | hx | hx
  ·exact ho (hx ▸ Lm.f_oth.1 d hd)
  ·rcases hg with hg | ⟨q',hq',hg⟩
   ·rw [hg] at hx
    exact absurd hx (by decide)
   ·rw [hg] at hx
    exact ho (hx ▸ Lm.f_oth.2.2 q' hq' d hd)
  ·exact ho (hx ▸ Lm.f_oth.2.1 m hm)
 unfold Sev;rw [e];exact sev_digs s hs
theorem sev_forty:∀ i,i < 40 -> Sev (Fm.T i):=by decide +kernel
theorem sev_all:oth 55 = 7 /\ allL [55] = [55]:=by decide +kernel
theorem sev_kd {r:Lm.Rec} {X:Pt.Pat} (h:Sev r):kd r X sevB = 7:=by
 unfold kd;rw [show sevB.data.toList = [55] from rfl,sev_all.2];rcases h with h | h
 ·rw [h,if_neg (by omega),if_pos ⟨rfl,by show 0 <= oth 55;rw [sev_all.1];omega⟩]
  exact sev_all.1
 ·rw [h,if_pos (by omega)]
theorem sev_len:(pcs sevB).length = 1:=by decide +kernel
theorem sev_join:sevB = ⟨(joinL [55]).toArray⟩:=by decide +kernel
theorem sev_cls:vld 55 = true /\ cls 55 = 0:=by decide +kernel
theorem sev_one:oneC sevB:=⟨[55],⟨fun c hc=>by
 rw [List.mem_singleton.1 hc];exact ⟨sev_cls.1,.inl sev_cls.2⟩,55,[],rfl,.inl sev_cls.2⟩,sev_join,sev_len⟩
theorem ctl_len:(pcs ctlB).length = 1:=by decide +kernel
theorem ctl_join:ctlB = ⟨(joinL [1]).toArray⟩:=by decide +kernel
theorem ctl_cls:vld 1 = true /\ cls 1 = 3:=by decide +kernel
theorem ctl_one:oneC ctlB:=⟨[1],⟨fun c hc=>by
 rw [List.mem_singleton.1 hc];exact ⟨ctl_cls.1,.inr (.inr ctl_cls.2)⟩,1,[],rfl,.inr ctl_cls.2⟩,ctl_join,ctl_len⟩
theorem pln_cls {s:ByteArray} (h:pE s.data.toList):∀ p ∈ pcs s,∀ c ∈ allL p.data.toList,cls c = 0 \/ cls c = 4:=by
 intro p hp;rcases h with h | h
 ·rw [show s = ⟨#[]⟩ from ba_ext h,pcs_emp] at hp
  cases hp
 ·unfold pln at h
  simp only [Bool.and_eq_true] at h;obtain ⟨h1,_⟩:=(plain_iff _).1 h.2;have hv:∀ x ∈ allL s.data.toList,vld x = true:=allL_vld s.data.toList;have e:s = ⟨(joinL (allL s.data.toList)).toArray⟩:=ba_ext (by rw [join_ok _ h.1]);rw [e] at hp;obtain ⟨ys,c,r,g1,g2,g3,g4,g5⟩:=pcs_each _ _ (Nat.le_refl _) hv p hp;rw [g4];show ∀ x ∈ allL (joinL (c :: r)),_;rw [allL_join _ fun x hx=>hv x (g1 x (List.mem_append.2 (.inr hx)))];exact fun x hx=>h1 x (g1 x (List.mem_append.2 (.inr hx)))
theorem ctl_all:oth 1 = -1 /\ allL [1] = [1] /\ blankB 1 = false /\ pln [1] = false:=by decide +kernel
theorem ctl_kd {r:Lm.Rec} {X:Pt.Pat} (h:It.LOk r X):kd r X ctlB = -1:=by
 have hs:Lm.sgn r ctlB = -1:=by
  unfold Lm.sgn;rw [if_neg (by decide)];refine Lm.plc_none _ 0 fun hm=>?_;rcases sym_all h _ hm with e | e
  ·cases e
  ·rw [show ctlB.data.toList = [1] from rfl,ctl_all.2.2.2] at e
   cases e
 have hc:¬ 0 <= Lm.plc ctlB (Lm.clus r X) 0:=fun hx=>by
  have hm:=(Lm.plc_neg _ 0).1 hx;unfold Lm.clus at hm;obtain ⟨A,hA,hm⟩:=List.mem_flatMap.1 hm;have hp:pE (Lm.bs (Lm.atx r A)).data.toList:=by rw [Lm.bs_list];exact atx_pE h hA A fun _ h=>h
  have:=pln_cls hp _ hm 1 (by rw [show ctlB.data.toList = [1] from rfl,ctl_all.2.1];exact List.mem_singleton.2 rfl);have:=ctl_cls.2;omega
 unfold kd;rw [hs,show ctlB.data.toList = [1] from rfl,ctl_all.2.1];rw [if_neg (by omega),if_neg (fun e=>by have:=ctl_all.1;have h2:0 <= oth 1:=e.2;omega),if_neg (fun e=>by
  rcases e with e | e
  ·have h2:blankB 1 = true:=e
   rw [ctl_all.2.2.1] at h2;cases h2
  ·exact hc e)]
theorem run_sev (k:Nat) (g:Bool) (a:List Int):run (List.replicate k 7) g a false = run [] g (a ++ List.replicate k 7) false:=by
 induction k generalizing a with
 | zero=>simp
 | succ k ih =>
  rw [List.replicate_succ,run_atom (by omega) (by omega),ih,List.append_assoc];rfl
theorem clip_sev {r:Lm.Rec} {X:Pt.Pat} (h:Sev r) (k:Nat) (hk:0 < k) (hs:k <= 4096):clip r X (catB (List.replicate k sevB)) = (false,List.replicate k 7,0):=by
 obtain ⟨h1,h2⟩:=cat_pcs (L:=List.replicate k sevB) fun p hp=>by rw [(List.mem_replicate.1 hp).2];exact sev_one
 have hz:(catB (List.replicate k sevB)).size = k:=by
  have e:∀ n,(List.replicate n sevB).flatMap (fun p=>p.data.toList) = List.replicate n 55:=by
   intro n;induction n with
   | zero=>rfl
   | succ n ih=>rw [List.replicate_succ,List.flatMap_cons,ih];rfl
  show ((List.replicate k sevB).flatMap fun p=>p.data.toList).toArray.size = k;rw [e];simp
 unfold clip;rw [if_neg (by omega),h2];unfold kds;rw [h1,List.map_replicate,sev_kd h,run_sev,List.nil_append,run_end,if_neg];intro e;have:=congrArg List.length e.2;simp at this;omega
theorem clip_ctl {r:Lm.Rec} {X:Pt.Pat} (h:It.LOk r X) (k:Nat) (hs:(catB (ctlB :: List.replicate k sevB)).size <= 4096):clip r X (catB (ctlB :: List.replicate k sevB)) = (false,[],2):=by
 obtain ⟨h1,h2⟩:=cat_pcs (L:=ctlB :: List.replicate k sevB) fun p hp=>by
  rcases List.mem_cons.1 hp with e | e
  ·rw [e];exact ctl_one
  ·rw [(List.mem_replicate.1 e).2];exact sev_one
 unfold clip;rw [if_neg (by omega),h2];unfold kds;rw [h1,List.map_cons,ctl_kd h,run,if_pos (by omega)]
end Ps
end
end Go.Proofs.YteggfkbnnmpcjaaGreatDoor
