/- The half that signs are. (and more) -/
import Derived.Test.YteggfkbnnmpcjaaGreatDoorR20
set_option linter.all false
set_option maxRecDepth 100000
set_option maxHeartbeats 8000000
namespace Go.Proofs.YteggfkbnnmpcjaaGreatDoor
section
open Go.RowKit
namespace Pg
open Pt Um
def ntN (x:Int × Int):Bool:=!isN x
theorem infoH:(Tryz.prog.info? 186).map (·.size) = some 8:=by kernel_rfl
theorem enters49 (args:Array Value) (w:World):(callFunc 175 args).run Tryz.prog w = .ok (.enter 175 args) w:=by go_simp
theorem enters50 (args:Array Value) (w:World):(callFunc 176 args).run Tryz.prog w = .ok (.enter 176 args) w:=by go_simp
theorem New.past {w:World} {b:Nat} {v:Value} {l:List Pc.E} (h:Pc.New w (b + 1) v l) (i:Nat) (u:Value):Pc.New (w.setCell ⟨b,i,none⟩ u) (b + 1) v l:=by
 refine ⟨?_,h.2⟩;rcases h.1 with hn | ⟨g,off,cap,rfl,hg,h1,h2,hc⟩
 ·exact .inl hn
 ·refine .inr ⟨g,off,cap,rfl,by rw [World.size_setCell];exact hg,h1,h2,fun j hj=>?_⟩
  have hb:=h.2 _ _ _ rfl (by omega);have hb:b + 1 <= g:=hb;exact ⟨cell_past (hc j hj).1 hg (by omega) u,cell_past (hc j hj).2 hg (by omega) u⟩
def HalfV (w:World) (B:Nat) (e:Ending) (P S:List Pc.E) (nb:Nb):Prop :=
 ∃ pa pc sa sc,e = .returned (.agg #[.slice pa P.length pc,.slice sa S.length sc,.int .i64 nb.p,.int .i64 nb.s,.int .i64 nb.mi,.int .i64 nb.xi,.int .i64 nb.mf,.int .i64 nb.xf]) /\ Pc.New w B (.slice pa P.length pc) P /\ Pc.New w B (.slice sa S.length sc) S
theorem halfOf_any (v:Value) (l:List (Int × Int)) (w:World) (hv:Sg.LstP w v l) (hl:l.length <= 100000) (hk:∀ x ∈ l,x.1 <= 4) (hne:∀ x ∈ l,encL x.2 ≠ [])
  (hf:ah ntN l < l.length) (hs:(l.drop (ah ntN l + ah isN (l.drop (ah ntN l)))).any isN = false) (nb:Nb)
  (hnb:prN (((l.drop (ah ntN l)).take (ah isN (l.drop (ah ntN l)))).flatMap fun x=>encL x.2) = some nb) (hnl:ah isN (l.drop (ah ntN l)) <= 250) :
  Calls Tryz.prog 143 #[v] w fun e w'=>HalfV w' w.heap.size e (joinT [] (l.take (ah ntN l))) (joinT [] (l.drop (ah ntN l + ah isN (l.drop (ah ntN l))))) nb /\ Q w w':=by
 have hA1:=fun w hv=>ahead_any 175 ntN notN_any enters49 v l w hv (by omega);have hk3:∀ x ∈ l,isN x = false -> x.1 <= 3:=fun x hx h=>by
  have h1:=hk x hx;unfold isN at h;rw [beq_eq_false_iff_ne] at h;omega
 have hP3:∀ x ∈ l.take (ah ntN l),x.1 <= 3:=fun x hx=>hk3 x (List.mem_of_mem_take hx) (by have:=tw_all (p:=ntN) l x hx;simpa [ntN] using this);have hS3:∀ x ∈ l.drop (ah ntN l + ah isN (l.drop (ah ntN l))),x.1 <= 3:=fun x hx=>hk3 x (List.mem_of_mem_drop hx) (by have:=List.any_eq_false.1 hs x hx;simpa using this);obtain ⟨n,hn⟩:∃ n,n = l.length:=⟨_,rfl⟩;have HN:=Hd hn;have HV:=Hd hv;obtain ⟨a,cp,rfl,hc1,hc2⟩:=hv.form0 hn.symm;unfold maxLen at hc2;rw [<- hn] at hf;obtain ⟨f,hfe⟩:∃ f,f = ah ntN l:=⟨_,rfl⟩;rw [<- hfe] at hA1 hP3 hS3 hf hs hnb hnl |-;have hA2:=fun w v' hv=>ahead_any 176 isN isN_any enters50 v' (l.drop f) w hv (by rw [List.length_drop];omega);have hmle:=ah_le isN (l.drop f);rw [List.length_drop,<- hn] at hmle;obtain ⟨m,hme⟩:∃ m,m = ah isN (l.drop f):=⟨_,rfl⟩;rw [<- hme] at hA2 hS3 hs hnb hnl hmle |-
 -- the list lies in a block
 obtain ⟨g,off,cap,hvv,hg,_,_,_,_⟩:=hv.cellOf hn.symm hf;cases hvv;have hD:=hv.drop hn.symm hf;have hTP:=hv.take f (by omega);obtain ⟨e,hee⟩:∃ e,e = f + m:=⟨_,rfl⟩;rw [<- hee] at hS3 hs |-;have hen:e <= n:=by omega
 have hMM:Sg.LstP w (.slice (some ⟨g,off + f * 2,none⟩) (e - f) (cp - f)) ((l.drop f).take m):=by
  rw [show e - f = m by omega];exact hD.take m (by rw [List.length_drop];omega)
 have HPRE:=Hd (fun u (hq:Q w u)=>pieces_any _ _ u (hTP.q hq) (by rw [List.length_take];omega) hP3 (fun x hx=>hne x (List.mem_of_mem_take hx)));have HTXT:=Hd (fun u (hq:Q w u)=>text_any _ _ u (hMM.q hq) (by rw [List.length_take,List.length_drop];omega));have hsz:=sgB_len ((l.drop f).take m);rw [List.length_take,List.length_drop,<- hn] at hsz;have HNUM:=Hd (fun u (hq:Q w u)=>numberOf_any ⟨(((l.drop f).take m).flatMap fun x=>encL x.2).toArray⟩ u (by simp only [ByteArray.size,List.size_toArray];omega) nb (by simpa using hnb));have hSF:=fun u sl (hq:Q w u) (h:Sg.LstP w sl (l.drop e))=>pieces_any sl _ u (h.q hq) (by rw [List.length_drop];omega) hS3 (fun x hx=>hne x (List.mem_of_mem_drop hx));obtain ⟨T,hT⟩:∃ T:ByteArray,T = ⟨(((l.drop f).take m).flatMap fun x=>encL x.2).toArray⟩:=⟨_,rfl⟩;rw [<- hT] at HTXT HNUM;obtain ⟨PL,hPL⟩:∃ PL,PL = joinT [] (l.take f):=⟨_,rfl⟩;obtain ⟨SL,hSL⟩:∃ SL,SL = joinT [] (l.drop e):=⟨_,rfl⟩;rw [<- hPL] at HPRE |-;rw [<- hSL] at hSF |-;obtain ⟨L1,hL1⟩:∃ L1,PL.length = L1:=⟨_,rfl⟩;obtain ⟨L2,hL2⟩:∃ L2,SL.length = L2:=⟨_,rfl⟩;unfold HalfV;rw [hL1,hL2];have HL1:=Hd hL1;have HL2:=Hd hL2;have HA1:=Hd hA1;have HA2:=Hd (fun u (hq:Q w u)=>hA2 u _ (hD.q hq));have hrest:=hv.rest hn.symm hen;have HSF:=Hd hSF;have hfi:(f:Int) <= (n:Int):=by omega
 have hei:(f:Int) + (m:Int) = (e:Int):=by omega
 have heni:(e:Int) <= (n:Int):=by omega
 have hfe2:f <= e:=by omega
 have hmfe:e - f = m:=by omega
 have HMF:=Hd hmfe;have hncp:n <= cp:=hc1;have hfcp:f <= cp:=by omega
 have hecp:e <= cp:=by omega
 have hfn2:f <= n:=by omega
 have HB0:=Hd (Bk.new w 186 [.slice none 0 0,.slice none 0 0,.int .i64 0,.int .i64 0,.int .i64 0,.int .i64 0,.int .i64 0,.int .i64 0]);clear hA1 hA2 hv hD hTP hMM hSF hfe hme hee hT hPL hSL hL1 hL2 hk hk3 hP3 hS3 hs hne hnb hn hsz hmle hmfe;go_enter Tryz.func143,Tryz.ntmps143
 go_wp2_with fail
 refine (HA1.out _ (HV.out.q ((Q.refl w).alloc _))).mono ?_;rintro ee w2 ⟨rfl,hq2⟩;have HQ2:=Hd (((Q.refl w).alloc _).trans hq2);have HB2:=Hd (HB0.out.q hq2);clear hq2 HB0;go_wp2_with fail
 refine (HA2.out _ HQ2.out).mono ?_;rintro ee w3 ⟨rfl,hq3⟩;have HQ3:=Hd (HQ2.out.trans hq3);have HB:=Hd (HB2.out.q hq3);have HW_w:=Hd (Nat.le_refl w.heap.size);clear hq3 HQ2 HB2;go_wp2_with fail
 rcases hrest with ⟨g3,off3,ha,hlt5,hcc2,hcm,hdp⟩ | ⟨hkn,hcn,hdp⟩ | ⟨ad3,ha,hkn,hcc2,hcm,hdp⟩
 ·cases ha
  have HSUF:=Hd (fun u (hq:Q w u)=>HSF.out u _ hq hdp);clear hdp;refine wp_region_held_drew (S:=fun u=>Q w u) (by kernel_rfl) (by exact HQ3.out.drew) (fun hHeld=>?_);have hS:Q w w3.drew:=hHeld;clear hHeld;have hq:Q w3 w3.drew:=(Q.refl _).drew;have HB:=Hd (Bk.q HB.out hq);clear hq;generalize w3.drew = yR1x0 at *;refine tk 0 (by simp only [gA,gB,gC];rfl) (by first | kernel_rfl | rfl) (fun uz _=>by go_simp;try with_reducible rfl) pq hS ?_;try simp only [Act.put,sA,sB,sC]
  refine tk 1 (by simp only [gA,gB,gC];rfl) (by first | kernel_rfl | rfl) (fun uz _=>by go_simp;try with_reducible rfl) pq hS ?_;try simp only [Act.put,sA,sB,sC]
  refine tk 2 (by simp only [gA,gB,gC];rfl) (by first | kernel_rfl | rfl) (fun uz _=>by go_simp;try with_reducible rfl) pq hS ?_;try simp only [Act.put,sA,sB,sC]
  refine tk 4 (by simp only [gA,gB,gC];rfl) (by first | kernel_rfl | rfl) (fun uz _=>by go_simp;try with_reducible rfl) pq hS ?_;try simp only [Act.put,sA,sB,sC]
  refine tk 5 (by simp only [gA,gB,gC];rfl) (by first | kernel_rfl | rfl) (fun uz _=>by go_simp;try with_reducible rfl) pq hS ?_;try simp only [Act.put,sA,sB,sC]
  refine tk 6 (by simp only [gA,gB,gC];rfl) (by first | kernel_rfl | rfl) (fun uz _=>by go_simp;try with_reducible rfl) pq hS ?_;try simp only [Act.put,sA,sB,sC]
  refine tk 8 (by simp only [gA,gB,gC];rfl) (by first | kernel_rfl | rfl) (fun uz _=>by go_simp;try with_reducible rfl) pq hS ?_;try simp only [Act.put,sA,sB,sC]
  refine tk 9 (by simp only [gA,gB,gC];rfl) (by first | kernel_rfl | rfl) (fun uz _=>by go_simp;try with_reducible rfl) pq hS ?_;try simp only [Act.put,sA,sB,sC]
  refine tk 10 (by simp only [gA,gB,gC];rfl) (by first | kernel_rfl | rfl) (fun uz _=>by go_simp;try with_reducible rfl) pq hS ?_;try simp only [Act.put,sA,sB,sC]
  refine tk 11 (by simp only [gA,gB,gC];rfl) (by first | kernel_rfl | rfl) (fun uz _=>by go_simp;try with_reducible rfl) pq hS ?_;try simp only [Act.put,sA,sB,sC]
  refine wpAnyH_ready (rs:=[3]) (by kernel_rfl) (by simp) ?_;refine ar rfl fun K hK=>?_;go_simp
  refine (HPRE.out _ hS).mono ?_;rintro e yR1x11 ⟨pv,rfl,ho,hq⟩;have HP:=Hd (Pc.New.mono (Pc.OwnE.new ho) (show w.heap.size + 1 <= _ from HB.out.lt));clear ho;obtain ⟨pa,pc,rfl,_,_⟩:=HP.out.1.form0 HL1.out;try (go_wp2_with fail)
  have HB:=Hd (Bk.q HB.out hq);have hS2:=Q.trans hS hq;refine hK.out _ _ (by exact hS2) (fun hHeld=>?_);clear hK K hHeld hS hq;have hS:=hS2;clear hS2;try simp only [Act.put,sA,sB,sC]
  refine wpAnyH_ready (rs:=[7]) (by kernel_rfl) (by simp) ?_;refine ar rfl fun K hK=>?_;go_simp
  refine (HSUF.out _ hS).mono ?_;rintro e yR1x12 ⟨sv,rfl,ho,hq⟩;have HT:=Hd (Pc.New.mono (Pc.OwnE.new ho) (show w.heap.size + 1 <= _ from HB.out.lt));clear ho;obtain ⟨sa,sc,rfl,_,_⟩:=HT.out.1.form0 HL2.out;try (go_wp2_with fail)
  have HB:=Hd (Bk.q HB.out hq);have HP:=Hd (Pc.New.q HP.out hq);have hS2:=Q.trans hS hq;refine hK.out _ _ (by exact hS2) (fun hHeld=>?_);clear hK K hHeld hS hq;have hS:=hS2;clear hS2;try simp only [Act.put,sA,sB,sC]
  refine wpAnyH_ready (rs:=[12]) (by kernel_rfl) (by simp) ?_;refine ar rfl fun K hK=>?_;go_simp
  refine (HTXT.out _ hS).mono ?_;rintro e yR1x13 ⟨rfl,hq⟩;try (go_wp2_with fail)
  have HB:=Hd (Bk.q HB.out hq);have HP:=Hd (Pc.New.q HP.out hq);have HT:=Hd (Pc.New.q HT.out hq);have hS2:=Q.trans hS hq;refine hK.out _ _ (by exact hS2) (fun hHeld=>?_);clear hK K hHeld hS hq;have hS:=hS2;clear hS2;try simp only [Act.put,sA,sB,sC]
  refine wpAnyH_ready (rs:=[13]) (by kernel_rfl) (by simp) ?_;refine ar rfl fun K hK=>?_;go_simp
  refine (HNUM.out _ hS).mono ?_;rintro e yR1x14 ⟨rfl,hq⟩;try (go_wp2_with fail)
  have HB:=Hd (Bk.q HB.out hq);have HP:=Hd (Pc.New.q HP.out hq);have HT:=Hd (Pc.New.q HT.out hq);have hS2:=Q.trans hS hq;refine hK.out _ _ (by exact hS2) (fun hHeld=>?_);clear hK K hHeld hS hq;have hS:=hS2;clear hS2;try simp only [Act.put,sA,sB,sC]
  refine tk 14 (by simp only [gA,gB,gC];rfl) (by first | kernel_rfl | rfl) (fun uz _=>by go_simp;try with_reducible rfl) pq hS ?_;try simp only [Act.put,sA,sB,sC]
  refine wpAnyH_ready (rs:=[15]) (by kernel_rfl) (by simp) ?_;refine ar rfl fun K hK=>?_;have b0:=HB.out.cell 0 rfl;have f0:=HB.out.free 0;have b1:=HB.out.cell 1 rfl;have f1:=HB.out.free 1;have b2:=HB.out.cell 2 rfl;have f2:=HB.out.free 2;have b3:=HB.out.cell 3 rfl;have f3:=HB.out.free 3;have b4:=HB.out.cell 4 rfl;have f4:=HB.out.free 4;have b5:=HB.out.cell 5 rfl;have f5:=HB.out.free 5;have b6:=HB.out.cell 6 rfl;have f6:=HB.out.free 6;have b7:=HB.out.cell 7 rfl;have f7:=HB.out.free 7;go_simp
  have hS2:=(Q.setCell (Q.setCell (Q.setCell (Q.setCell (Q.setCell (Q.setCell (Q.setCell (Q.setCell hS (ad:=⟨w.heap.size,0,none⟩) HW_w.out (.slice pa L1 pc)) (ad:=⟨w.heap.size,1,none⟩) HW_w.out (.slice sa L2 sc)) (ad:=⟨w.heap.size,2,none⟩) HW_w.out (.int .i64 nb.p)) (ad:=⟨w.heap.size,3,none⟩) HW_w.out (.int .i64 nb.s)) (ad:=⟨w.heap.size,4,none⟩) HW_w.out (.int .i64 nb.mi)) (ad:=⟨w.heap.size,5,none⟩) HW_w.out (.int .i64 nb.xi)) (ad:=⟨w.heap.size,6,none⟩) HW_w.out (.int .i64 nb.mf)) (ad:=⟨w.heap.size,7,none⟩) HW_w.out (.int .i64 nb.xf));replace HB:=Hd ((((((((HB.out.set 0 (.slice pa L1 pc)).set 1 (.slice sa L2 sc)).set 2 (.int .i64 nb.p)).set 3 (.int .i64 nb.s)).set 4 (.int .i64 nb.mi)).set 5 (.int .i64 nb.xi)).set 6 (.int .i64 nb.mf)).set 7 (.int .i64 nb.xf));replace HP:=Hd (New.past (New.past (New.past (New.past (New.past (New.past (New.past (New.past HP.out 0 (.slice pa L1 pc)) 1 (.slice sa L2 sc)) 2 (.int .i64 nb.p)) 3 (.int .i64 nb.s)) 4 (.int .i64 nb.mi)) 5 (.int .i64 nb.xi)) 6 (.int .i64 nb.mf)) 7 (.int .i64 nb.xf));replace HT:=Hd (New.past (New.past (New.past (New.past (New.past (New.past (New.past (New.past HT.out 0 (.slice pa L1 pc)) 1 (.slice sa L2 sc)) 2 (.int .i64 nb.p)) 3 (.int .i64 nb.s)) 4 (.int .i64 nb.mi)) 5 (.int .i64 nb.xi)) 6 (.int .i64 nb.mf)) 7 (.int .i64 nb.xf));refine hK.out _ _ (by exact hS2) (fun hHeld=>?_);clear hK K hHeld hS;have hS:=hS2;clear hS2 b0 f0 b1 f1 b2 f2 b3 f3 b4 f4 b5 f5 b6 f6 b7 f7;generalize ((((((((yR1x14.setCell ⟨w.heap.size,0,none⟩ (.slice pa L1 pc)).setCell ⟨w.heap.size,1,none⟩ (.slice sa L2 sc)).setCell ⟨w.heap.size,2,none⟩ (.int .i64 nb.p)).setCell ⟨w.heap.size,3,none⟩ (.int .i64 nb.s)).setCell ⟨w.heap.size,4,none⟩ (.int .i64 nb.mi)).setCell ⟨w.heap.size,5,none⟩ (.int .i64 nb.xi)).setCell ⟨w.heap.size,6,none⟩ (.int .i64 nb.mf)).setCell ⟨w.heap.size,7,none⟩ (.int .i64 nb.xf)) = yR1x16 at *;try simp only [Act.put,sA,sB,sC]
  refine wpAnyH_done (by kernel_rfl) ?_ _;go_wp2_with fail
  refine ret_bk rfl Tryz.underlying186 (by exact infoH) rfl HB.out rfl ⟨⟨pa,pc,sa,sc,rfl,HP.out.mono (Nat.le_succ _),HT.out.mono (Nat.le_succ _)⟩,hS⟩
 ·subst hkn
  subst hcn;have HSUF:=Hd (fun u (hq:Q w u)=>HSF.out u (.slice (some ⟨g,off,none⟩) 0 0) hq (by rw [hdp];exact Sg.LstP.nil _ _ _ (by unfold maxLen;omega) (fun h=>nomatch h)));clear hdp;refine wp_region_held_drew (S:=fun u=>Q w u) (by kernel_rfl) (by exact HQ3.out.drew) (fun hHeld=>?_);have hS:Q w w3.drew:=hHeld;clear hHeld;have hq:Q w3 w3.drew:=(Q.refl _).drew;have HB:=Hd (Bk.q HB.out hq);clear hq;generalize w3.drew = yR2x0 at *;refine tk 0 (by simp only [gA,gB,gC];rfl) (by first | kernel_rfl | rfl) (fun uz _=>by go_simp;try with_reducible rfl) pq hS ?_;try simp only [Act.put,sA,sB,sC]
  refine tk 1 (by simp only [gA,gB,gC];rfl) (by first | kernel_rfl | rfl) (fun uz _=>by go_simp;try with_reducible rfl) pq hS ?_;try simp only [Act.put,sA,sB,sC]
  refine tk 2 (by simp only [gA,gB,gC];rfl) (by first | kernel_rfl | rfl) (fun uz _=>by go_simp;try with_reducible rfl) pq hS ?_;try simp only [Act.put,sA,sB,sC]
  refine tk 4 (by simp only [gA,gB,gC];rfl) (by first | kernel_rfl | rfl) (fun uz _=>by go_simp;try with_reducible rfl) pq hS ?_;try simp only [Act.put,sA,sB,sC]
  refine tk 5 (by simp only [gA,gB,gC];rfl) (by first | kernel_rfl | rfl) (fun uz _=>by go_simp;try with_reducible rfl) pq hS ?_;try simp only [Act.put,sA,sB,sC]
  refine tk 6 (by simp only [gA,gB,gC];rfl) (by first | kernel_rfl | rfl) (fun uz _=>by go_simp;try with_reducible rfl) pq hS ?_;try simp only [Act.put,sA,sB,sC]
  refine tk 8 (by simp only [gA,gB,gC];rfl) (by first | kernel_rfl | rfl) (fun uz _=>by go_simp;try with_reducible rfl) pq hS ?_;try simp only [Act.put,sA,sB,sC]
  refine tk 9 (by simp only [gA,gB,gC];rfl) (by first | kernel_rfl | rfl) (fun uz _=>by go_simp;try with_reducible rfl) pq hS ?_;try simp only [Act.put,sA,sB,sC]
  refine tk 10 (by simp only [gA,gB,gC];rfl) (by first | kernel_rfl | rfl) (fun uz _=>by go_simp;try with_reducible rfl) pq hS ?_;try simp only [Act.put,sA,sB,sC]
  refine tk 11 (by simp only [gA,gB,gC];rfl) (by first | kernel_rfl | rfl) (fun uz _=>by go_simp;try with_reducible rfl) pq hS ?_;try simp only [Act.put,sA,sB,sC]
  refine wpAnyH_ready (rs:=[3]) (by kernel_rfl) (by simp) ?_;refine ar rfl fun K hK=>?_;go_simp
  refine (HPRE.out _ hS).mono ?_;rintro e yR2x11 ⟨pv,rfl,ho,hq⟩;have HP:=Hd (Pc.New.mono (Pc.OwnE.new ho) (show w.heap.size + 1 <= _ from HB.out.lt));clear ho;obtain ⟨pa,pc,rfl,_,_⟩:=HP.out.1.form0 HL1.out;try (go_wp2_with fail)
  have HB:=Hd (Bk.q HB.out hq);have hS2:=Q.trans hS hq;refine hK.out _ _ (by exact hS2) (fun hHeld=>?_);clear hK K hHeld hS hq;have hS:=hS2;clear hS2;try simp only [Act.put,sA,sB,sC]
  refine wpAnyH_ready (rs:=[7]) (by kernel_rfl) (by simp) ?_;refine ar rfl fun K hK=>?_;go_simp
  refine (HSUF.out _ hS).mono ?_;rintro e yR2x12 ⟨sv,rfl,ho,hq⟩;have HT:=Hd (Pc.New.mono (Pc.OwnE.new ho) (show w.heap.size + 1 <= _ from HB.out.lt));clear ho;obtain ⟨sa,sc,rfl,_,_⟩:=HT.out.1.form0 HL2.out;try (go_wp2_with fail)
  have HB:=Hd (Bk.q HB.out hq);have HP:=Hd (Pc.New.q HP.out hq);have hS2:=Q.trans hS hq;refine hK.out _ _ (by exact hS2) (fun hHeld=>?_);clear hK K hHeld hS hq;have hS:=hS2;clear hS2;try simp only [Act.put,sA,sB,sC]
  refine wpAnyH_ready (rs:=[12]) (by kernel_rfl) (by simp) ?_;refine ar rfl fun K hK=>?_;go_simp
  refine (HTXT.out _ hS).mono ?_;rintro e yR2x13 ⟨rfl,hq⟩;try (go_wp2_with fail)
  have HB:=Hd (Bk.q HB.out hq);have HP:=Hd (Pc.New.q HP.out hq);have HT:=Hd (Pc.New.q HT.out hq);have hS2:=Q.trans hS hq;refine hK.out _ _ (by exact hS2) (fun hHeld=>?_);clear hK K hHeld hS hq;have hS:=hS2;clear hS2;try simp only [Act.put,sA,sB,sC]
  refine wpAnyH_ready (rs:=[13]) (by kernel_rfl) (by simp) ?_;refine ar rfl fun K hK=>?_;go_simp
  refine (HNUM.out _ hS).mono ?_;rintro e yR2x14 ⟨rfl,hq⟩;try (go_wp2_with fail)
  have HB:=Hd (Bk.q HB.out hq);have HP:=Hd (Pc.New.q HP.out hq);have HT:=Hd (Pc.New.q HT.out hq);have hS2:=Q.trans hS hq;refine hK.out _ _ (by exact hS2) (fun hHeld=>?_);clear hK K hHeld hS hq;have hS:=hS2;clear hS2;try simp only [Act.put,sA,sB,sC]
  refine tk 14 (by simp only [gA,gB,gC];rfl) (by first | kernel_rfl | rfl) (fun uz _=>by go_simp;try with_reducible rfl) pq hS ?_;try simp only [Act.put,sA,sB,sC]
  refine wpAnyH_ready (rs:=[15]) (by kernel_rfl) (by simp) ?_;refine ar rfl fun K hK=>?_;have b0:=HB.out.cell 0 rfl;have f0:=HB.out.free 0;have b1:=HB.out.cell 1 rfl;have f1:=HB.out.free 1;have b2:=HB.out.cell 2 rfl;have f2:=HB.out.free 2;have b3:=HB.out.cell 3 rfl;have f3:=HB.out.free 3;have b4:=HB.out.cell 4 rfl;have f4:=HB.out.free 4;have b5:=HB.out.cell 5 rfl;have f5:=HB.out.free 5;have b6:=HB.out.cell 6 rfl;have f6:=HB.out.free 6;have b7:=HB.out.cell 7 rfl;have f7:=HB.out.free 7;go_simp
  have hS2:=(Q.setCell (Q.setCell (Q.setCell (Q.setCell (Q.setCell (Q.setCell (Q.setCell (Q.setCell hS (ad:=⟨w.heap.size,0,none⟩) HW_w.out (.slice pa L1 pc)) (ad:=⟨w.heap.size,1,none⟩) HW_w.out (.slice sa L2 sc)) (ad:=⟨w.heap.size,2,none⟩) HW_w.out (.int .i64 nb.p)) (ad:=⟨w.heap.size,3,none⟩) HW_w.out (.int .i64 nb.s)) (ad:=⟨w.heap.size,4,none⟩) HW_w.out (.int .i64 nb.mi)) (ad:=⟨w.heap.size,5,none⟩) HW_w.out (.int .i64 nb.xi)) (ad:=⟨w.heap.size,6,none⟩) HW_w.out (.int .i64 nb.mf)) (ad:=⟨w.heap.size,7,none⟩) HW_w.out (.int .i64 nb.xf));replace HB:=Hd ((((((((HB.out.set 0 (.slice pa L1 pc)).set 1 (.slice sa L2 sc)).set 2 (.int .i64 nb.p)).set 3 (.int .i64 nb.s)).set 4 (.int .i64 nb.mi)).set 5 (.int .i64 nb.xi)).set 6 (.int .i64 nb.mf)).set 7 (.int .i64 nb.xf));replace HP:=Hd (New.past (New.past (New.past (New.past (New.past (New.past (New.past (New.past HP.out 0 (.slice pa L1 pc)) 1 (.slice sa L2 sc)) 2 (.int .i64 nb.p)) 3 (.int .i64 nb.s)) 4 (.int .i64 nb.mi)) 5 (.int .i64 nb.xi)) 6 (.int .i64 nb.mf)) 7 (.int .i64 nb.xf));replace HT:=Hd (New.past (New.past (New.past (New.past (New.past (New.past (New.past (New.past HT.out 0 (.slice pa L1 pc)) 1 (.slice sa L2 sc)) 2 (.int .i64 nb.p)) 3 (.int .i64 nb.s)) 4 (.int .i64 nb.mi)) 5 (.int .i64 nb.xi)) 6 (.int .i64 nb.mf)) 7 (.int .i64 nb.xf));refine hK.out _ _ (by exact hS2) (fun hHeld=>?_);clear hK K hHeld hS;have hS:=hS2;clear hS2 b0 f0 b1 f1 b2 f2 b3 f3 b4 f4 b5 f5 b6 f6 b7 f7;generalize ((((((((yR2x14.setCell ⟨w.heap.size,0,none⟩ (.slice pa L1 pc)).setCell ⟨w.heap.size,1,none⟩ (.slice sa L2 sc)).setCell ⟨w.heap.size,2,none⟩ (.int .i64 nb.p)).setCell ⟨w.heap.size,3,none⟩ (.int .i64 nb.s)).setCell ⟨w.heap.size,4,none⟩ (.int .i64 nb.mi)).setCell ⟨w.heap.size,5,none⟩ (.int .i64 nb.xi)).setCell ⟨w.heap.size,6,none⟩ (.int .i64 nb.mf)).setCell ⟨w.heap.size,7,none⟩ (.int .i64 nb.xf)) = yR2x16 at *;try simp only [Act.put,sA,sB,sC]
  refine wpAnyH_done (by kernel_rfl) ?_ _;go_wp2_with fail
  refine ret_bk rfl Tryz.underlying186 (by exact infoH) rfl HB.out rfl ⟨⟨pa,pc,sa,sc,rfl,HP.out.mono (Nat.le_succ _),HT.out.mono (Nat.le_succ _)⟩,hS⟩
 ·cases ha
  subst hkn;have HSUF:=Hd (fun u (hq:Q w u)=>HSF.out u (.slice (some (⟨g,off + e * 2,none⟩:Addr)) 0 (cp - e)) hq (by rw [hdp];exact Sg.LstP.nil _ _ _ (by unfold maxLen;omega) (fun h=>nomatch h)));clear hdp;refine wp_region_held_drew (S:=fun u=>Q w u) (by kernel_rfl) (by exact HQ3.out.drew) (fun hHeld=>?_);have hS:Q w w3.drew:=hHeld;clear hHeld;have hq:Q w3 w3.drew:=(Q.refl _).drew;have HB:=Hd (Bk.q HB.out hq);clear hq;generalize w3.drew = yR3x0 at *;refine tk 0 (by simp only [gA,gB,gC];rfl) (by first | kernel_rfl | rfl) (fun uz _=>by go_simp;try with_reducible rfl) pq hS ?_;try simp only [Act.put,sA,sB,sC]
  refine tk 1 (by simp only [gA,gB,gC];rfl) (by first | kernel_rfl | rfl) (fun uz _=>by go_simp;try with_reducible rfl) pq hS ?_;try simp only [Act.put,sA,sB,sC]
  refine tk 2 (by simp only [gA,gB,gC];rfl) (by first | kernel_rfl | rfl) (fun uz _=>by go_simp;try with_reducible rfl) pq hS ?_;try simp only [Act.put,sA,sB,sC]
  refine tk 4 (by simp only [gA,gB,gC];rfl) (by first | kernel_rfl | rfl) (fun uz _=>by go_simp;try with_reducible rfl) pq hS ?_;try simp only [Act.put,sA,sB,sC]
  refine tk 5 (by simp only [gA,gB,gC];rfl) (by first | kernel_rfl | rfl) (fun uz _=>by go_simp;try with_reducible rfl) pq hS ?_;try simp only [Act.put,sA,sB,sC]
  refine tk 6 (by simp only [gA,gB,gC];rfl) (by first | kernel_rfl | rfl) (fun uz _=>by go_simp;try with_reducible rfl) pq hS ?_;try simp only [Act.put,sA,sB,sC]
  refine tk 8 (by simp only [gA,gB,gC];rfl) (by first | kernel_rfl | rfl) (fun uz _=>by go_simp;try with_reducible rfl) pq hS ?_;try simp only [Act.put,sA,sB,sC]
  refine tk 9 (by simp only [gA,gB,gC];rfl) (by first | kernel_rfl | rfl) (fun uz _=>by go_simp;try with_reducible rfl) pq hS ?_;try simp only [Act.put,sA,sB,sC]
  refine tk 10 (by simp only [gA,gB,gC];rfl) (by first | kernel_rfl | rfl) (fun uz _=>by go_simp;try with_reducible rfl) pq hS ?_;try simp only [Act.put,sA,sB,sC]
  refine tk 11 (by simp only [gA,gB,gC];rfl) (by first | kernel_rfl | rfl) (fun uz _=>by go_simp;try with_reducible rfl) pq hS ?_;try simp only [Act.put,sA,sB,sC]
  refine wpAnyH_ready (rs:=[3]) (by kernel_rfl) (by simp) ?_;refine ar rfl fun K hK=>?_;go_simp
  refine (HPRE.out _ hS).mono ?_;rintro e yR3x11 ⟨pv,rfl,ho,hq⟩;have HP:=Hd (Pc.New.mono (Pc.OwnE.new ho) (show w.heap.size + 1 <= _ from HB.out.lt));clear ho;obtain ⟨pa,pc,rfl,_,_⟩:=HP.out.1.form0 HL1.out;try (go_wp2_with fail)
  have HB:=Hd (Bk.q HB.out hq);have hS2:=Q.trans hS hq;refine hK.out _ _ (by exact hS2) (fun hHeld=>?_);clear hK K hHeld hS hq;have hS:=hS2;clear hS2;try simp only [Act.put,sA,sB,sC]
  refine wpAnyH_ready (rs:=[7]) (by kernel_rfl) (by simp) ?_;refine ar rfl fun K hK=>?_;go_simp
  refine (HSUF.out _ hS).mono ?_;rintro e yR3x12 ⟨sv,rfl,ho,hq⟩;have HT:=Hd (Pc.New.mono (Pc.OwnE.new ho) (show w.heap.size + 1 <= _ from HB.out.lt));clear ho;obtain ⟨sa,sc,rfl,_,_⟩:=HT.out.1.form0 HL2.out;try (go_wp2_with fail)
  have HB:=Hd (Bk.q HB.out hq);have HP:=Hd (Pc.New.q HP.out hq);have hS2:=Q.trans hS hq;refine hK.out _ _ (by exact hS2) (fun hHeld=>?_);clear hK K hHeld hS hq;have hS:=hS2;clear hS2;try simp only [Act.put,sA,sB,sC]
  refine wpAnyH_ready (rs:=[12]) (by kernel_rfl) (by simp) ?_;refine ar rfl fun K hK=>?_;go_simp
  refine (HTXT.out _ hS).mono ?_;rintro e yR3x13 ⟨rfl,hq⟩;try (go_wp2_with fail)
  have HB:=Hd (Bk.q HB.out hq);have HP:=Hd (Pc.New.q HP.out hq);have HT:=Hd (Pc.New.q HT.out hq);have hS2:=Q.trans hS hq;refine hK.out _ _ (by exact hS2) (fun hHeld=>?_);clear hK K hHeld hS hq;have hS:=hS2;clear hS2;try simp only [Act.put,sA,sB,sC]
  refine wpAnyH_ready (rs:=[13]) (by kernel_rfl) (by simp) ?_;refine ar rfl fun K hK=>?_;go_simp
  refine (HNUM.out _ hS).mono ?_;rintro e yR3x14 ⟨rfl,hq⟩;try (go_wp2_with fail)
  have HB:=Hd (Bk.q HB.out hq);have HP:=Hd (Pc.New.q HP.out hq);have HT:=Hd (Pc.New.q HT.out hq);have hS2:=Q.trans hS hq;refine hK.out _ _ (by exact hS2) (fun hHeld=>?_);clear hK K hHeld hS hq;have hS:=hS2;clear hS2;try simp only [Act.put,sA,sB,sC]
  refine tk 14 (by simp only [gA,gB,gC];rfl) (by first | kernel_rfl | rfl) (fun uz _=>by go_simp;try with_reducible rfl) pq hS ?_;try simp only [Act.put,sA,sB,sC]
  refine wpAnyH_ready (rs:=[15]) (by kernel_rfl) (by simp) ?_;refine ar rfl fun K hK=>?_;have b0:=HB.out.cell 0 rfl;have f0:=HB.out.free 0;have b1:=HB.out.cell 1 rfl;have f1:=HB.out.free 1;have b2:=HB.out.cell 2 rfl;have f2:=HB.out.free 2;have b3:=HB.out.cell 3 rfl;have f3:=HB.out.free 3;have b4:=HB.out.cell 4 rfl;have f4:=HB.out.free 4;have b5:=HB.out.cell 5 rfl;have f5:=HB.out.free 5;have b6:=HB.out.cell 6 rfl;have f6:=HB.out.free 6;have b7:=HB.out.cell 7 rfl;have f7:=HB.out.free 7;go_simp
  have hS2:=(Q.setCell (Q.setCell (Q.setCell (Q.setCell (Q.setCell (Q.setCell (Q.setCell (Q.setCell hS (ad:=⟨w.heap.size,0,none⟩) HW_w.out (.slice pa L1 pc)) (ad:=⟨w.heap.size,1,none⟩) HW_w.out (.slice sa L2 sc)) (ad:=⟨w.heap.size,2,none⟩) HW_w.out (.int .i64 nb.p)) (ad:=⟨w.heap.size,3,none⟩) HW_w.out (.int .i64 nb.s)) (ad:=⟨w.heap.size,4,none⟩) HW_w.out (.int .i64 nb.mi)) (ad:=⟨w.heap.size,5,none⟩) HW_w.out (.int .i64 nb.xi)) (ad:=⟨w.heap.size,6,none⟩) HW_w.out (.int .i64 nb.mf)) (ad:=⟨w.heap.size,7,none⟩) HW_w.out (.int .i64 nb.xf));replace HB:=Hd ((((((((HB.out.set 0 (.slice pa L1 pc)).set 1 (.slice sa L2 sc)).set 2 (.int .i64 nb.p)).set 3 (.int .i64 nb.s)).set 4 (.int .i64 nb.mi)).set 5 (.int .i64 nb.xi)).set 6 (.int .i64 nb.mf)).set 7 (.int .i64 nb.xf));replace HP:=Hd (New.past (New.past (New.past (New.past (New.past (New.past (New.past (New.past HP.out 0 (.slice pa L1 pc)) 1 (.slice sa L2 sc)) 2 (.int .i64 nb.p)) 3 (.int .i64 nb.s)) 4 (.int .i64 nb.mi)) 5 (.int .i64 nb.xi)) 6 (.int .i64 nb.mf)) 7 (.int .i64 nb.xf));replace HT:=Hd (New.past (New.past (New.past (New.past (New.past (New.past (New.past (New.past HT.out 0 (.slice pa L1 pc)) 1 (.slice sa L2 sc)) 2 (.int .i64 nb.p)) 3 (.int .i64 nb.s)) 4 (.int .i64 nb.mi)) 5 (.int .i64 nb.xi)) 6 (.int .i64 nb.mf)) 7 (.int .i64 nb.xf));refine hK.out _ _ (by exact hS2) (fun hHeld=>?_);clear hK K hHeld hS;have hS:=hS2;clear hS2 b0 f0 b1 f1 b2 f2 b3 f3 b4 f4 b5 f5 b6 f6 b7 f7;generalize ((((((((yR3x14.setCell ⟨w.heap.size,0,none⟩ (.slice pa L1 pc)).setCell ⟨w.heap.size,1,none⟩ (.slice sa L2 sc)).setCell ⟨w.heap.size,2,none⟩ (.int .i64 nb.p)).setCell ⟨w.heap.size,3,none⟩ (.int .i64 nb.s)).setCell ⟨w.heap.size,4,none⟩ (.int .i64 nb.mi)).setCell ⟨w.heap.size,5,none⟩ (.int .i64 nb.xi)).setCell ⟨w.heap.size,6,none⟩ (.int .i64 nb.mf)).setCell ⟨w.heap.size,7,none⟩ (.int .i64 nb.xf)) = yR3x16 at *;try simp only [Act.put,sA,sB,sC]
  refine wpAnyH_done (by kernel_rfl) ?_ _;go_wp2_with fail
  refine ret_bk rfl Tryz.underlying186 (by exact infoH) rfl HB.out rfl ⟨⟨pa,pc,sa,sc,rfl,HP.out.mono (Nat.le_succ _),HT.out.mono (Nat.le_succ _)⟩,hS⟩
end Pg
end
end Go.Proofs.YteggfkbnnmpcjaaGreatDoor
