/- The program's strict: what stands around the numbers of one sign, the draft that a text shows by it, the draft of a text. (and more) -/
import Derived.Test.YtdjhkbholijnmaaGreatDoorR42
set_option linter.all false
set_option maxRecDepth 100000
set_option maxHeartbeats 8000000
namespace Go.Proofs.YtdjhkbholijnmaaGreatDoor
section
open Go.RowKit
namespace Sp
open Um Cm Gm Im Lo Sx Tm
theorem infoDr:(Tryz.prog.info? 39).map (·.size) = some 4:=by kernel_rfl
theorem infoHf:(Tryz.prog.info? 87).map (·.size) = some 3:=by kernel_rfl
theorem wrapM (x:Int) (m:Nat) (h:x = (m:Int)) (hm:m < 9223372036854775808):IntKind.i64.wrap x = x:=by
 subst h;rw [IntKind.wrap_i64];omega
theorem LstI_drop {w:World} {g off n c k:Nat} {l:List E} (h:LstI w (.slice (some ⟨g,off,none⟩) n c) l) (hn:l.length = n) (hk:k < n):LstI w (.slice (some ⟨g,off + k * 3,none⟩) (n - k) (c - k)) (l.drop k):=by
 rcases h with ⟨rfl,_⟩ | ⟨g',off',cap,hv,hg,h1,h2,hc⟩
 ·simp at hn;omega
 ·cases hv
  have hl:(l.drop k).length = l.length - k:=by simp
  refine .inr ⟨g,off + k * 3,c - k,by rw [hl],hg,by omega,by unfold maxLen at *;omega,fun i hi=>?_⟩;rw [hl] at hi;have e:(l.drop k).getD i e0 = l.getD (k + i) e0:=by
   simp only [List.getD_eq_getElem?_getD,List.getElem?_drop]
  rw [e,show off + k * 3 + i * 3 = off + (k + i) * 3 from by omega];exact hc (k + i) (by omega)
theorem LstI_take {w:World} {a:Option Addr} {n c:Nat} {l:List E} (h:LstI w (.slice a n c) l) (k:Nat) (hk:k <= l.length):LstI w (.slice a k c) (l.take k):=by
 rcases h with ⟨rfl,a,c,hv,hc,hn⟩ | ⟨g,o,cap,hv,hg,h1,h2,hcell⟩
 ·cases hv
  have:k = 0:=by simpa using hk
  subst this;exact .nil _ _ _ hc hn
 ·cases hv
  have hl:(l.take k).length = k:=by simp;omega
  refine .inr ⟨g,o,c,by rw [hl],hg,by omega,h2,fun i hi=>?_⟩;rw [hl] at hi;have e:(l.take k).getD i e0 = l.getD i e0:=by
   simp only [List.getD_eq_getElem?_getD];rw [List.getElem?_take,if_pos hi]
  rw [e];exact hcell i (by omega)
theorem fnd_aff (r:Lm.Rec) (x:E) (T:List E) (h:x.2.2 = 0):∀ (A:List Pb.E) (k:Nat),fndI (fun y=>y.2.2 == 0) (affI r A ++ x :: T) k = ((k + A.length:Nat):Int)
 | [],k=>by
  unfold affI fndI;simp [h]
 | p :: A,k=>by
  have ih:=fnd_aff r x T h A (k + 1);have hp:(affE r p).2.2 = -1:=by unfold affE;split <;> rfl
  show fndI _ (affE r p :: (affI r A ++ x :: T)) k = _;unfold fndI;rw [if_neg (by rw [hp];decide),ih];simp only [List.length_cons];omega
theorem Own_row {w:World} {B b0:Nat} {v:Value} {zs:List Int} (h:Own w B v zs) (hb:b0 < B) (cs:Array Value):Own (w.setRow b0 cs) B v zs:=h.same fun g hg=>setRow_other w b0 g cs (by have:=(h.lt g hg).1;omega)
theorem LD_row {w:World} {B b0:Nat} {v:Value} {d:T} (h:LD w B v d) (hb:b0 < B) (cs:Array Value):LD (w.setRow b0 cs) B v d:=by
 obtain ⟨a1,c1,a2,c2,h0,h1,h2⟩:=h;exact ⟨a1,c1,a2,c2,h0,Own_row h1 hb cs,Own_row h2 hb cs⟩
theorem ret_h {fn:Func} {p:Tmp} (h:fn.results = #[.cell p 87]) {R:Ending -> World -> Prop} {a:Act} {w:World} {g:Nat} {l:List Value}
  (hl:l.length = 3) (hp:a.tmps.getD p undef = .pointer (some ⟨g,0,none⟩)) (hg:Bk w g 87 l) (hd:a.defers = []) (hR:R (.returned (.agg l.toArray)) w):bodyPost Tryz.prog fn R .ret a w :=
 ret_bk h Tryz.underlying87 (by rw [infoHf,hl]) hp hg hd hR
def hv (r:Lm.Rec) (X:Pt.Pat) (g:Bool):Value:=.agg #[.bool g,.string ⟨(aB r X g).toArray⟩,.string ⟨(bB r X g).toArray⟩]
theorem halfOf_any (g:Nat) (r:Lm.Rec) (X:Pt.Pat) (a b c d cl:Value) (neg:Bool) (w:World) (hok:It.LOk r X) (hB:LB w g r X a b c d cl) :
  Calls Tryz.prog 60 #[.pointer (some ⟨g,0,none⟩),.bool neg] w fun e w'=>e = .returned (hv r X neg) /\ Q w w':=by
 have HI:=Hd (fun u (q:Q w u)=>It.items_big g r X a b c d cl neg true none none 0 0 0 0 [] [] u hok.ok (hB.q q) (Lst.nil u none 0 (by unfold maxLen;omega) (fun _=>rfl)) (Lst.nil u none 0 (by unfold maxLen;omega) (fun _=>rfl)) rfl rfl (by omega) (by omega) (by unfold Dm.okD;intro x hx;cases hx) (by unfold Dm.okD;intro x hx;cases hx));have hokt:=itm_okT hok (d:=⟨neg,[],true,[]⟩) (by unfold Dm.okD;intro x hx;cases hx) (by unfold Dm.okD;intro x hx;cases hx) neg;have hpl:=(Ro.around_fact hok.ok neg).2.2.1;have hpl2:=(Ro.around_fact hok.ok neg).2.2.2;have hL:itm r X.pr X.se ⟨neg,[],true,[]⟩ (parP r (Ro.ahd neg X)) (parP r (Ro.bhd neg X)) = affI r (parP r (Ro.ahd neg X)) ++ (4,Lm.bs r.dec,0) :: affI r (parP r (Ro.bhd neg X)):=by
  unfold itm resI;simp [whI,reI]
 rw [hL] at HI hokt;have hfn:=fnd_aff r (4,Lm.bs r.dec,0) (affI r (parP r (Ro.bhd neg X))) rfl (parP r (Ro.ahd neg X)) 0;have hal:(affI r (parP r (Ro.ahd neg X))).length = (parP r (Ro.ahd neg X)).length:=affI_len r _;have hbl:(affI r (parP r (Ro.bhd neg X))).length = (parP r (Ro.bhd neg X)).length:=affI_len r _;have HAB:=Hd (show hv r X neg = .agg #[.bool neg,.string ⟨(txI (affI r (parP r (Ro.ahd neg X)))).toArray⟩,.string ⟨(txI (affI r (parP r (Ro.bhd neg X)))).toArray⟩] from rfl);rw [Nat.zero_add] at hfn;rw [<- hal] at hfn hpl;rw [<- hbl] at hpl2;clear hok hB hL hal hbl;generalize affI r (parP r (Ro.ahd neg X)) = A1 at *;generalize affI r (parP r (Ro.bhd neg X)) = A2 at *;have hta:=tx_len A1 (fun e he=>hokt e (List.mem_append.2 (.inl he)));have htb:=tx_len A2 (fun e he=>hokt e (List.mem_append.2 (.inr (List.mem_cons_of_mem _ he))));have hln:(A1 ++ ((4,Lm.bs r.dec,0):E) :: A2).length = A1.length + 1 + A2.length:=by simp;omega
 have htk:(A1 ++ ((4,Lm.bs r.dec,0):E) :: A2).take A1.length = A1:=by simp
 have htd:(A1 ++ ((4,Lm.bs r.dec,0):E) :: A2).drop (A1.length + 1) = A2:=by simp
 generalize (A1 ++ ((4,Lm.bs r.dec,0):E) :: A2) = L at *;obtain ⟨m,hm⟩:∃ m,m = A1.length:=⟨_,rfl⟩;obtain ⟨m2,hm2⟩:∃ m,m = A2.length:=⟨_,rfl⟩;obtain ⟨n,hn⟩:∃ n,n = L.length:=⟨_,rfl⟩;rw [<- hm] at hln hfn hpl htk htd hta;rw [<- hm2] at hln hpl2 htb;rw [<- hn] at hln;have HN:=Hd hn.symm;have HFN:=Hd hfn;have HTK:=Hd htk;have HTD:=Hd htd;have HL1:=Hd (show A1.length <= 1000000 /\ (txI A1).length <= 1000000 by omega);have HL2:=Hd (show A2.length <= 1000000 /\ (txI A2).length <= 1000000 by omega);have hmn:m + 1 <= n:=by omega
 have hnb:n <= 100:=by omega
 have HML:=Hd (show m <= L.length by omega);clear hokt hfn htk htd hta htb hm hm2 hn hln hpl hpl2;obtain ⟨z,hz⟩:∃ y,y = w.alloc (.cells #[.bool false,.string ⟨#[]⟩,.string ⟨#[]⟩] 87):=⟨_,rfl⟩;have HQZ:=Hd (show Q w z by rw [hz];exact (Q.refl w).alloc _);have HHZ:=Hd (show Bk z w.heap.size 87 [.bool false,.string ⟨#[]⟩,.string ⟨#[]⟩] by rw [hz];exact Bk.new _ _ _);go_enter Tryz.func60,Tryz.ntmps60
 go_upto_region 1 with fail
 rw [<- hz];clear hz;go_wp2_with fail
 refine (HI.out _ HQZ.out).mono ?_;rintro e w1 ⟨v,rfl,hov,hq1⟩;have hvl:=hov.lst;obtain ⟨sa,sc,rfl,hnc,hcm⟩:=hvl.form0 HN.out;unfold maxLen at hcm;have HQ1:=Hd (HQZ.out.trans hq1);have HH1:=Hd (HHZ.out.q hq1);have HV:=Hd hvl;have HFI:=Hd (It.find_any (.slice sa n sc) L 0 w1 hvl (by have:=HN.out;omega));rw [HFN.out] at HFI;clear hov hvl hq1 HQZ HHZ HI;go_wp2_with fail
 refine HFI.out.mono ?_;rintro e w2 ⟨rfl,hq2⟩;have HQ2:=Hd (HQ1.out.trans hq2);have HH2:=Hd (HH1.out.q hq2);have HV2:=Hd (HV.out.q hq2);obtain ⟨bH,hbH⟩:∃ b,b = w.heap.size:=⟨_,rfl⟩;have HW_bH:=Hd (show w.heap.size <= bH by omega);rw [<- hbH] at HH2 |-;clear hq2 HQ1 HH1 hbH;have hrest:=(show (∃ g off,sa = some ⟨g,off,none⟩ /\ m + 1 < n /\ n <= sc /\ sc <= 9223372036854775807 /\ LstI w2 (.slice (some ⟨g,off + (m + 1) * 3,none⟩) (n - (m + 1)) (sc - (m + 1))) (L.drop (m + 1))) \/
  (m + 1 = n /\ sc = n /\ L.drop (m + 1) = []) \/ (∃ ad,sa = some ad /\ m + 1 = n /\ n < sc /\ sc <= 9223372036854775807 /\ L.drop (m + 1) = []) from by
  obtain ⟨g,off,cap,hvv,_,_,_,_⟩:=HV2.out.cellOf HN.out (k:=0) (by omega);cases hvv;by_cases hlt:m + 1 < n
  ·exact .inl ⟨g,off,rfl,hlt,hnc,by omega,LstI_drop HV2.out HN.out hlt⟩
  ·have he:L.drop (m + 1) = []:=List.drop_eq_nil_of_le (by have:=HN.out;omega)
   by_cases hcn:sc = n
   ·exact .inr (.inl ⟨by omega,hcn,he⟩)
   ·exact .inr (.inr ⟨_,rfl,by omega,by omega,by omega,he⟩))
 rw [HTD.out] at hrest;have HTA:=Hd (LstI_take HV2.out m HML.out);rw [HTK.out] at HTA;have hm1:(0:Int) <= (m:Int) + 1:=by omega
 have hm3:(m:Int) + 1 <= (sc:Int):=by omega
 have hm4:(m:Int) + 1 <= (n:Int):=by omega
 have hm5:((m:Int) + 1).toNat = m + 1:=by omega
 have hm6:IntKind.i64.wrap ((m:Int) + 1) = (m:Int) + 1:=wrapM _ (m + 1) (by omega) (by omega);have hm7:(m:Int) <= (sc:Int):=by omega
 have hm8:(m:Int) <= (m:Int) + 1:=by omega
 go_upto_region 3 with fail
 have hqd:Q w2 w2.drew:=(Q.refl _).drew;have HTD2:=Hd (HTA.out.q hqd);rcases hrest with ⟨g3,off3,ha,hlt5,hcc,hcm5,hdp⟩ | ⟨hkn,hcn,hdp⟩ | ⟨ad3,ha,hkn,hcc,hcm5,hdp⟩
 ·cases ha
  have HRS:=Hd hdp;have hne:¬ sc = m + 1:=by omega
  clear hdp hqd HTD2;refine wp_region_held_drew (S:=fun u=>Q w u) (by kernel_rfl) (by exact HQ2.out.drew) (fun hHeld=>?_);have hS:Q w w2.drew:=hHeld;clear hHeld;have hq:Q w2 w2.drew:=(Q.refl _).drew;have HTA:=Hd (LstI.q HTA.out hq);have HRS:=Hd (LstI.q HRS.out hq);have HH2:=Hd (Bk.q HH2.out hq);clear hq;generalize w2.drew = yR1x0 at *;change wpAnyH _ _ _ _ _ _ #[ff,ff,ff,ff,ff,ff,ff,ff,ff,ff,ff,ff] _ _;refine tk 0 (by simp only [gA,gB,gC];rfl) (by first | kernel_rfl | rfl) (fun uz _=>by go_simp;try with_reducible rfl) pq hS ?_;try simp only [Act.put,sA,sB,sC]
  refine tk 1 (by simp only [gA,gB,gC];rfl) (by first | kernel_rfl | rfl) (fun uz _=>by go_simp;try with_reducible rfl) pq hS ?_;try simp only [Act.put,sA,sB,sC]
  refine tk 2 (by simp only [gA,gB,gC];rfl) (by first | kernel_rfl | rfl) (fun uz _=>by go_simp;try with_reducible rfl) pq hS ?_;try simp only [Act.put,sA,sB,sC]
  refine tk 3 (by simp only [gA,gB,gC];rfl) (by first | kernel_rfl | rfl) (fun uz _=>by go_simp;try with_reducible rfl) pq hS ?_;try simp only [Act.put,sA,sB,sC]
  refine tk 5 (by simp only [gA,gB,gC];rfl) (by first | kernel_rfl | rfl) (fun uz _=>by go_simp;try with_reducible rfl) pq hS ?_;try simp only [Act.put,sA,sB,sC]
  refine tk 6 (by simp only [gA,gB,gC];rfl) (by first | kernel_rfl | rfl) (fun uz _=>by go_simp;try with_reducible rfl) pq hS ?_;try simp only [Act.put,sA,sB,sC]
  refine tk 7 (by simp only [gA,gB,gC];rfl) (by first | kernel_rfl | rfl) (fun uz _=>by go_simp;try with_reducible rfl) pq hS ?_;try simp only [Act.put,sA,sB,sC]
  refine tk 8 (by simp only [gA,gB,gC];rfl) (by first | kernel_rfl | rfl) (fun uz _=>by go_simp;try with_reducible rfl) pq hS ?_;try simp only [Act.put,sA,sB,sC]
  refine wpAnyH_ready (rs:=[4]) (by kernel_rfl) (by simp) ?_;refine ar (by (try simp only [gA,gB,gC]);rfl) fun K hK=>?_;go_simp
  refine (It.text_any _ A1 _ HTA.out HL1.out.1 HL1.out.2).mono ?_;rintro e yR1x9 ⟨rfl,hq⟩;try (go_wp2_with fail)
  have HTA:=Hd (LstI.q HTA.out hq);have HRS:=Hd (LstI.q HRS.out hq);have HH2:=Hd (Bk.q HH2.out hq);have hS2:=Q.trans hS hq;refine hK.out _ _ (by exact hS2) (fun hHeld=>?_);clear hK K hHeld hS hq;have hS:=hS2;clear hS2;try simp only [Act.put,sA,sB,sC]
  refine wpAnyH_ready (rs:=[9]) (by kernel_rfl) (by simp) ?_;refine ar (by (try simp only [gA,gB,gC]);rfl) fun K hK=>?_;go_simp
  refine (It.text_any _ A2 _ HRS.out HL2.out.1 HL2.out.2).mono ?_;rintro e yR1x10 ⟨rfl,hq⟩;try (go_wp2_with fail)
  have HTA:=Hd (LstI.q HTA.out hq);have HRS:=Hd (LstI.q HRS.out hq);have HH2:=Hd (Bk.q HH2.out hq);have hS2:=Q.trans hS hq;refine hK.out _ _ (by exact hS2) (fun hHeld=>?_);clear hK K hHeld hS hq;have hS:=hS2;clear hS2;try simp only [Act.put,sA,sB,sC]
  refine tk 10 (by simp only [gA,gB,gC];rfl) (by first | kernel_rfl | rfl) (fun uz _=>by go_simp;try with_reducible rfl) pq hS ?_;try simp only [Act.put,sA,sB,sC]
  refine wpAnyH_ready (rs:=[11]) (by kernel_rfl) (by simp) ?_;refine ar (by (try simp only [gA,gB,gC]);rfl) fun K hK=>?_;have b0:=HH2.out.cell 0 rfl;have f0:=HH2.out.free 0;have b1:=HH2.out.cell 1 rfl;have f1:=HH2.out.free 1;have b2:=HH2.out.cell 2 rfl;have f2:=HH2.out.free 2;go_simp
  have hS2:=(Q.setCell (Q.setCell (Q.setCell hS (ad:=⟨bH,0,none⟩) HW_bH.out (.bool neg)) (ad:=⟨bH,1,none⟩) HW_bH.out (.string ⟨(txI A1).toArray⟩)) (ad:=⟨bH,2,none⟩) HW_bH.out (.string ⟨(txI A2).toArray⟩));replace HH2:=Hd (((HH2.out.set 0 (.bool neg)).set 1 (.string ⟨(txI A1).toArray⟩)).set 2 (.string ⟨(txI A2).toArray⟩));refine hK.out _ _ (by exact hS2) (fun hHeld=>?_);clear hK K hHeld hS;have hS:=hS2;clear hS2 b0 f0 b1 f1 b2 f2;generalize (((yR1x10.setCell ⟨bH,0,none⟩ (.bool neg)).setCell ⟨bH,1,none⟩ (.string ⟨(txI A1).toArray⟩)).setCell ⟨bH,2,none⟩ (.string ⟨(txI A2).toArray⟩)) = yR1x12 at *;try simp only [Act.put,sA,sB,sC]
  refine wpAnyH_done (by kernel_rfl) ?_ _;go_wp2_with fail
  refine ret_h rfl rfl rfl HH2.out rfl ⟨by rw [HAB.out];rfl,hS⟩
 ·have HRS:=Hd (show LstI w2 (.slice sa 0 0) A2 by rw [hdp];exact LstI.nil _ _ _ (by unfold maxLen;omega) (fun _=>rfl))
  subst hkn;subst hcn;clear hdp hqd HTD2;refine wp_region_held_drew (S:=fun u=>Q w u) (by kernel_rfl) (by exact HQ2.out.drew) (fun hHeld=>?_);have hS:Q w w2.drew:=hHeld;clear hHeld;have hq:Q w2 w2.drew:=(Q.refl _).drew;have HTA:=Hd (LstI.q HTA.out hq);have HRS:=Hd (LstI.q HRS.out hq);have HH2:=Hd (Bk.q HH2.out hq);clear hq;generalize w2.drew = yR2x0 at *;change wpAnyH _ _ _ _ _ _ #[ff,ff,ff,ff,ff,ff,ff,ff,ff,ff,ff,ff] _ _;refine tk 0 (by simp only [gA,gB,gC];rfl) (by first | kernel_rfl | rfl) (fun uz _=>by go_simp;try with_reducible rfl) pq hS ?_;try simp only [Act.put,sA,sB,sC]
  refine tk 1 (by simp only [gA,gB,gC];rfl) (by first | kernel_rfl | rfl) (fun uz _=>by go_simp;try with_reducible rfl) pq hS ?_;try simp only [Act.put,sA,sB,sC]
  refine tk 2 (by simp only [gA,gB,gC];rfl) (by first | kernel_rfl | rfl) (fun uz _=>by go_simp;try with_reducible rfl) pq hS ?_;try simp only [Act.put,sA,sB,sC]
  refine tk 3 (by simp only [gA,gB,gC];rfl) (by first | kernel_rfl | rfl) (fun uz _=>by go_simp;try with_reducible rfl) pq hS ?_;try simp only [Act.put,sA,sB,sC]
  refine tk 5 (by simp only [gA,gB,gC];rfl) (by first | kernel_rfl | rfl) (fun uz _=>by go_simp;try with_reducible rfl) pq hS ?_;try simp only [Act.put,sA,sB,sC]
  refine tk 6 (by simp only [gA,gB,gC];rfl) (by first | kernel_rfl | rfl) (fun uz _=>by go_simp;try with_reducible rfl) pq hS ?_;try simp only [Act.put,sA,sB,sC]
  refine tk 7 (by simp only [gA,gB,gC];rfl) (by first | kernel_rfl | rfl) (fun uz _=>by go_simp;try with_reducible rfl) pq hS ?_;try simp only [Act.put,sA,sB,sC]
  refine tk 8 (by simp only [gA,gB,gC];rfl) (by first | kernel_rfl | rfl) (fun uz _=>by go_simp;try with_reducible rfl) pq hS ?_;try simp only [Act.put,sA,sB,sC]
  refine wpAnyH_ready (rs:=[4]) (by kernel_rfl) (by simp) ?_;refine ar (by (try simp only [gA,gB,gC]);rfl) fun K hK=>?_;go_simp
  refine (It.text_any _ A1 _ HTA.out HL1.out.1 HL1.out.2).mono ?_;rintro e yR2x9 ⟨rfl,hq⟩;try (go_wp2_with fail)
  have HTA:=Hd (LstI.q HTA.out hq);have HRS:=Hd (LstI.q HRS.out hq);have HH2:=Hd (Bk.q HH2.out hq);have hS2:=Q.trans hS hq;refine hK.out _ _ (by exact hS2) (fun hHeld=>?_);clear hK K hHeld hS hq;have hS:=hS2;clear hS2;try simp only [Act.put,sA,sB,sC]
  refine wpAnyH_ready (rs:=[9]) (by kernel_rfl) (by simp) ?_;refine ar (by (try simp only [gA,gB,gC]);rfl) fun K hK=>?_;go_simp
  refine (It.text_any _ A2 _ HRS.out HL2.out.1 HL2.out.2).mono ?_;rintro e yR2x10 ⟨rfl,hq⟩;try (go_wp2_with fail)
  have HTA:=Hd (LstI.q HTA.out hq);have HRS:=Hd (LstI.q HRS.out hq);have HH2:=Hd (Bk.q HH2.out hq);have hS2:=Q.trans hS hq;refine hK.out _ _ (by exact hS2) (fun hHeld=>?_);clear hK K hHeld hS hq;have hS:=hS2;clear hS2;try simp only [Act.put,sA,sB,sC]
  refine tk 10 (by simp only [gA,gB,gC];rfl) (by first | kernel_rfl | rfl) (fun uz _=>by go_simp;try with_reducible rfl) pq hS ?_;try simp only [Act.put,sA,sB,sC]
  refine wpAnyH_ready (rs:=[11]) (by kernel_rfl) (by simp) ?_;refine ar (by (try simp only [gA,gB,gC]);rfl) fun K hK=>?_;have b0:=HH2.out.cell 0 rfl;have f0:=HH2.out.free 0;have b1:=HH2.out.cell 1 rfl;have f1:=HH2.out.free 1;have b2:=HH2.out.cell 2 rfl;have f2:=HH2.out.free 2;go_simp
  have hS2:=(Q.setCell (Q.setCell (Q.setCell hS (ad:=⟨bH,0,none⟩) HW_bH.out (.bool neg)) (ad:=⟨bH,1,none⟩) HW_bH.out (.string ⟨(txI A1).toArray⟩)) (ad:=⟨bH,2,none⟩) HW_bH.out (.string ⟨(txI A2).toArray⟩));replace HH2:=Hd (((HH2.out.set 0 (.bool neg)).set 1 (.string ⟨(txI A1).toArray⟩)).set 2 (.string ⟨(txI A2).toArray⟩));refine hK.out _ _ (by exact hS2) (fun hHeld=>?_);clear hK K hHeld hS;have hS:=hS2;clear hS2 b0 f0 b1 f1 b2 f2;generalize (((yR2x10.setCell ⟨bH,0,none⟩ (.bool neg)).setCell ⟨bH,1,none⟩ (.string ⟨(txI A1).toArray⟩)).setCell ⟨bH,2,none⟩ (.string ⟨(txI A2).toArray⟩)) = yR2x12 at *;try simp only [Act.put,sA,sB,sC]
  refine wpAnyH_done (by kernel_rfl) ?_ _;go_wp2_with fail
  refine ret_h rfl rfl rfl HH2.out rfl ⟨by rw [HAB.out];rfl,hS⟩
 ·cases ha
  have HRS:=Hd (show LstI w2 (.slice (some (ad3.add ((m + 1) * 3))) 0 (sc - (m + 1))) A2 by rw [hdp];exact LstI.nil _ _ _ (by unfold maxLen;omega) (fun h=>nomatch h));subst hkn;have hne:¬ sc = m + 1:=by omega
  clear hdp hqd HTD2;refine wp_region_held_drew (S:=fun u=>Q w u) (by kernel_rfl) (by exact HQ2.out.drew) (fun hHeld=>?_);have hS:Q w w2.drew:=hHeld;clear hHeld;have hq:Q w2 w2.drew:=(Q.refl _).drew;have HTA:=Hd (LstI.q HTA.out hq);have HRS:=Hd (LstI.q HRS.out hq);have HH2:=Hd (Bk.q HH2.out hq);clear hq;generalize w2.drew = yR3x0 at *;change wpAnyH _ _ _ _ _ _ #[ff,ff,ff,ff,ff,ff,ff,ff,ff,ff,ff,ff] _ _;refine tk 0 (by simp only [gA,gB,gC];rfl) (by first | kernel_rfl | rfl) (fun uz _=>by go_simp;try with_reducible rfl) pq hS ?_;try simp only [Act.put,sA,sB,sC]
  refine tk 1 (by simp only [gA,gB,gC];rfl) (by first | kernel_rfl | rfl) (fun uz _=>by go_simp;try with_reducible rfl) pq hS ?_;try simp only [Act.put,sA,sB,sC]
  refine tk 2 (by simp only [gA,gB,gC];rfl) (by first | kernel_rfl | rfl) (fun uz _=>by go_simp;try with_reducible rfl) pq hS ?_;try simp only [Act.put,sA,sB,sC]
  refine tk 3 (by simp only [gA,gB,gC];rfl) (by first | kernel_rfl | rfl) (fun uz _=>by go_simp;try with_reducible rfl) pq hS ?_;try simp only [Act.put,sA,sB,sC]
  refine tk 5 (by simp only [gA,gB,gC];rfl) (by first | kernel_rfl | rfl) (fun uz _=>by go_simp;try with_reducible rfl) pq hS ?_;try simp only [Act.put,sA,sB,sC]
  refine tk 6 (by simp only [gA,gB,gC];rfl) (by first | kernel_rfl | rfl) (fun uz _=>by go_simp;try with_reducible rfl) pq hS ?_;try simp only [Act.put,sA,sB,sC]
  refine tk 7 (by simp only [gA,gB,gC];rfl) (by first | kernel_rfl | rfl) (fun uz _=>by go_simp;try with_reducible rfl) pq hS ?_;try simp only [Act.put,sA,sB,sC]
  refine tk 8 (by simp only [gA,gB,gC];rfl) (by first | kernel_rfl | rfl) (fun uz _=>by go_simp;try with_reducible rfl) pq hS ?_;try simp only [Act.put,sA,sB,sC]
  refine wpAnyH_ready (rs:=[4]) (by kernel_rfl) (by simp) ?_;refine ar (by (try simp only [gA,gB,gC]);rfl) fun K hK=>?_;go_simp
  refine (It.text_any _ A1 _ HTA.out HL1.out.1 HL1.out.2).mono ?_;rintro e yR3x9 ⟨rfl,hq⟩;try (go_wp2_with fail)
  have HTA:=Hd (LstI.q HTA.out hq);have HRS:=Hd (LstI.q HRS.out hq);have HH2:=Hd (Bk.q HH2.out hq);have hS2:=Q.trans hS hq;refine hK.out _ _ (by exact hS2) (fun hHeld=>?_);clear hK K hHeld hS hq;have hS:=hS2;clear hS2;try simp only [Act.put,sA,sB,sC]
  refine wpAnyH_ready (rs:=[9]) (by kernel_rfl) (by simp) ?_;refine ar (by (try simp only [gA,gB,gC]);rfl) fun K hK=>?_;go_simp
  refine (It.text_any _ A2 _ HRS.out HL2.out.1 HL2.out.2).mono ?_;rintro e yR3x10 ⟨rfl,hq⟩;try (go_wp2_with fail)
  have HTA:=Hd (LstI.q HTA.out hq);have HRS:=Hd (LstI.q HRS.out hq);have HH2:=Hd (Bk.q HH2.out hq);have hS2:=Q.trans hS hq;refine hK.out _ _ (by exact hS2) (fun hHeld=>?_);clear hK K hHeld hS hq;have hS:=hS2;clear hS2;try simp only [Act.put,sA,sB,sC]
  refine tk 10 (by simp only [gA,gB,gC];rfl) (by first | kernel_rfl | rfl) (fun uz _=>by go_simp;try with_reducible rfl) pq hS ?_;try simp only [Act.put,sA,sB,sC]
  refine wpAnyH_ready (rs:=[11]) (by kernel_rfl) (by simp) ?_;refine ar (by (try simp only [gA,gB,gC]);rfl) fun K hK=>?_;have b0:=HH2.out.cell 0 rfl;have f0:=HH2.out.free 0;have b1:=HH2.out.cell 1 rfl;have f1:=HH2.out.free 1;have b2:=HH2.out.cell 2 rfl;have f2:=HH2.out.free 2;go_simp
  have hS2:=(Q.setCell (Q.setCell (Q.setCell hS (ad:=⟨bH,0,none⟩) HW_bH.out (.bool neg)) (ad:=⟨bH,1,none⟩) HW_bH.out (.string ⟨(txI A1).toArray⟩)) (ad:=⟨bH,2,none⟩) HW_bH.out (.string ⟨(txI A2).toArray⟩));replace HH2:=Hd (((HH2.out.set 0 (.bool neg)).set 1 (.string ⟨(txI A1).toArray⟩)).set 2 (.string ⟨(txI A2).toArray⟩));refine hK.out _ _ (by exact hS2) (fun hHeld=>?_);clear hK K hHeld hS;have hS:=hS2;clear hS2 b0 f0 b1 f1 b2 f2;generalize (((yR3x10.setCell ⟨bH,0,none⟩ (.bool neg)).setCell ⟨bH,1,none⟩ (.string ⟨(txI A1).toArray⟩)).setCell ⟨bH,2,none⟩ (.string ⟨(txI A2).toArray⟩)) = yR3x12 at *;try simp only [Act.put,sA,sB,sC]
  refine wpAnyH_done (by kernel_rfl) ?_ _;go_wp2_with fail
  refine ret_h rfl rfl rfl HH2.out rfl ⟨by rw [HAB.out];rfl,hS⟩
end Sp
end
section
open Go.RowKit
namespace Sp
open Um Cm Gm Im Lo Sx Tm
theorem infoAr:(Tryz.prog.info? 88).map (·.size) = some 6:=by kernel_rfl
theorem trimP_len (s p:List UInt8):(Lib.trimPrefix s p).length <= s.length:=by
 unfold Lib.trimPrefix;split
 ·rw [List.length_drop];omega
 ·exact Nat.le_refl _
theorem trimS_len (s p:List UInt8):(Lib.trimSuffix s p).length <= s.length:=by
 unfold Lib.trimSuffix;split
 ·rw [List.length_take];omega
 ·exact Nat.le_refl _
theorem size_mk (l:List UInt8):(⟨l.toArray⟩:ByteArray).size = l.length:=by simp [ByteArray.size]
theorem hR_eq (r:Lm.Rec) (X:Pt.Pat) (g:Bool) (s:List UInt8):hR r X g s = if (Lib.hasPrefix s (aB r X g) && Lib.hasSuffix (Lib.trimPrefix s (aB r X g)) (bB r X g)) = true then ung X.pr X.se (whl (sg r ⟨(Lib.trimSuffix (Lib.trimPrefix s (aB r X g)) (bB r X g)).toArray⟩)) false (sg r ⟨(Lib.trimSuffix (Lib.trimPrefix s (aB r X g)) (bB r X g)).toArray⟩) else none:=by
 unfold hR mdl;split
 ·next h=>split at h <;> simp_all
 ·next m h=>split at h <;> simp_all
theorem ung_le {p s left:Int} {due:Bool} {S L:List Int} (h:ung p s left due S = some L):L.length <= S.length:=by
 rw [ung_nog p s S left due L h];exact List.length_filter_le _ _
theorem halves_any (g:Nat) (r:Lm.Rec) (X:Pt.Pat) (a b c d cl:Value) (w:World) (hok:It.LOk r X) (hB:LB w g r X a b c d cl) :
  Calls Tryz.prog 31 #[.pointer (some ⟨g,0,none⟩)] w fun e w'=>e = .returned (.agg #[.bool false,.string ⟨(aB r X false).toArray⟩,.string ⟨(bB r X false).toArray⟩,.bool true,.string ⟨(aB r X true).toArray⟩,.string ⟨(bB r X true).toArray⟩]) /\ Q w w':=by
 have H:=Hd (fun neg u (q:Q w u)=>halfOf_any g r X a b c d cl neg u hok (hB.q q));unfold hv at H;have H0:=Hd (H.out false);have H1:=Hd (H.out true);clear hok hB H;generalize (⟨(aB r X false).toArray⟩:ByteArray) = s0 at *;generalize (⟨(bB r X false).toArray⟩:ByteArray) = t0 at *;generalize (⟨(aB r X true).toArray⟩:ByteArray) = s1 at *;generalize (⟨(bB r X true).toArray⟩:ByteArray) = t1 at *;obtain ⟨z,hz⟩:∃ y,y = w.alloc (.cells #[.bool false,.string ⟨#[]⟩,.string ⟨#[]⟩,.bool false,.string ⟨#[]⟩,.string ⟨#[]⟩] 88):=⟨_,rfl⟩;have HQZ:=Hd (show Q w z by rw [hz];exact (Q.refl w).alloc _);have HHZ:=Hd (show Bk z w.heap.size 88 [.bool false,.string ⟨#[]⟩,.string ⟨#[]⟩,.bool false,.string ⟨#[]⟩,.string ⟨#[]⟩] by rw [hz];exact Bk.new _ _ _);go_enter Tryz.func31,Tryz.ntmps31
 go_upto_region 1 with fail
 rw [<- hz];clear hz;go_wp2_with fail
 refine (H0.out _ HQZ.out).mono ?_;rintro e w1 ⟨rfl,hq1⟩;have HQ1:=Hd (HQZ.out.trans hq1);have HH1:=Hd (HHZ.out.q hq1);clear hq1;go_wp2_with fail
 refine (H1.out _ HQ1.out).mono ?_;rintro e w2 ⟨rfl,hq2⟩;have HQ2:=Hd (HQ1.out.trans hq2);have HH2:=Hd (HH1.out.q hq2);clear hq2;go_wp2_with (refine wpList_store_row (by rfl) 88 _ _ (by rfl) w.heap.size #[.bool false,.string s0,.string t0,.bool true,.string s1,.string t1] (by rfl) (by rfl) 88 _ HH2.out (by exact infoAr) rfl (Rw.all1 (by rfl)) ?_)
 exact bodyPost_ret (results_cell_row rfl _ _ w.heap.size 88 #[.bool false,.string s0,.string t0,.bool true,.string s1,.string t1] (0,0) _ rfl (Rw.Bk_row HH2.out [.bool false,.string s0,.string t0,.bool true,.string s1,.string t1]) Tryz.underlying88 rfl (by exact infoAr)) rfl ⟨rfl,Rw.Q_row HQ2.out (Nat.le_refl _) _⟩
theorem read_any (g:Nat) (r:Lm.Rec) (X:Pt.Pat) (a b c d cl:Value) (neg:Bool) (s:ByteArray) (w:World) (hB:LB w g r X a b c d cl) (hs:s.size <= 500000) :
  Calls Tryz.prog 32 #[hv r X neg,.pointer (some ⟨g,0,none⟩),.string s] w fun e w'=>∃ x,e = .returned (.tuple #[x,.bool (hY r X neg s.data.toList)]) /\ LD w' (w.heap.size + 2) x (hD r X neg s.data.toList) /\ Q w w':=by
 have HR:=Hd (hR_eq r X neg s.data.toList);have hYD:hY r X neg s.data.toList = (match hR r X neg s.data.toList with | none=>false | some L=>decide (ofC L = 0)) /\ hD r X neg s.data.toList = (match hR r X neg s.data.toList with | none=>T0 | some L=>ofR neg L):=⟨rfl,rfl⟩
 have HSG:=Hd (fun u (q:Q w u) t (ht:t.size <= 500000)=>signs_any g r X a b c d cl t u (hB.q q) (by omega));have HUN:=Hd (fun u (q:Q w u) v S (h:Lst u v S) (hl:S.length <= 500000)=>ungrouped_any g r X a b c d cl v S u (hB.q q) h (by omega));have HC1:=Hd (fun u=>cutPrefix_any s ⟨(aB r X neg).toArray⟩ u);have HC2:=Hd (fun u=>cutSuffix_any ⟨(Lib.trimPrefix s.data.toList (aB r X neg)).toArray⟩ ⟨(bB r X neg).toArray⟩ u (by rw [size_mk];have:=trimP_len s.data.toList (aB r X neg);have e:s.data.toList.length = s.size:=size_list s;omega));have hsz:(⟨(Lib.trimSuffix (Lib.trimPrefix s.data.toList (aB r X neg)) (bB r X neg)).toArray⟩:ByteArray).size <= 500000:=by
  rw [size_mk];have h1:=trimS_len (Lib.trimPrefix s.data.toList (aB r X neg)) (bB r X neg);have h2:=trimP_len s.data.toList (aB r X neg);have e:s.data.toList.length = s.size:=size_list s;omega
 rw [show ∀ l:List UInt8,(⟨l.toArray⟩:ByteArray).data.toList = l from fun _=>rfl] at HC1 HC2;rw [show ∀ l:List UInt8,(⟨l.toArray⟩:ByteArray).data.toList = l from fun _=>rfl] at HC2;have HLN:=Hd (show ∀ t:ByteArray,(sg r t).length <= t.size from fun t=>sg_len r t);unfold hv;generalize Lib.hasPrefix s.data.toList (aB r X neg) = p1 at *;generalize Lib.hasSuffix (Lib.trimPrefix s.data.toList (aB r X neg)) (bB r X neg) = p2 at *;generalize (⟨(Lib.trimSuffix (Lib.trimPrefix s.data.toList (aB r X neg)) (bB r X neg)).toArray⟩:ByteArray) = S2 at *;generalize (⟨(Lib.trimPrefix s.data.toList (aB r X neg)).toArray⟩:ByteArray) = S1 at *;generalize (⟨(aB r X neg).toArray⟩:ByteArray) = AB at *;generalize (⟨(bB r X neg).toArray⟩:ByteArray) = BB at *;generalize hR r X neg s.data.toList = R at *;generalize hY r X neg s.data.toList = RY at *;generalize hD r X neg s.data.toList = RD at *;generalize X.pr = pp at *;generalize X.se = ss at *;have HYD:=Hd hYD;have HSZ:=Hd hsz;clear hB hYD hsz;obtain ⟨y,hy⟩:∃ y,y = w.alloc (.cells #[.bool neg,.string AB,.string BB] 87):=⟨_,rfl⟩;have hqy:Q w y:=by rw [hy];exact (Q.refl w).alloc _
 have hby:Bk y w.heap.size 87 [.bool neg,.string AB,.string BB]:=by rw [hy];exact Bk.new _ _ _
 have hsy:y.heap.size = w.heap.size + 1:=by rw [hy];simp
 obtain ⟨z,hz⟩:∃ z,z = y.alloc (.cells #[.bool false,.slice none 0 0,.bool false,.slice none 0 0] 39):=⟨_,rfl⟩;have hqz:Q y z:=by rw [hz];exact (Q.refl y).alloc _
 have hdz:Bk z y.heap.size 39 [.bool false,.slice none 0 0,.bool false,.slice none 0 0]:=by rw [hz];exact Bk.new _ _ _
 have hszz:z.heap.size = w.heap.size + 2:=by rw [hz];simp;omega
 rw [hsy] at hdz;have HQZ:=Hd (hqy.trans hqz);have HHZ:=Hd (hby.q hqz);have HDZ:=Hd hdz;have HZS:=Hd hszz;have hz2:z = (w.alloc (.cells #[.bool neg,.string AB,.string BB] 87)).alloc (.cells #[.bool false,.slice none 0 0,.bool false,.slice none 0 0] 39):=by rw [hz,hy]
 clear hqy hby hsy hqz hdz hszz hz hy;obtain ⟨bH,hbH⟩:∃ b,b = w.heap.size:=⟨_,rfl⟩;obtain ⟨bD,hbD⟩:∃ b,b = w.heap.size + 1:=⟨_,rfl⟩;have HWD:=Hd (show w.heap.size <= bD by omega);have HDL:=Hd (show bD < w.heap.size + 2 by omega);rw [<- hbH] at HHZ;rw [<- hbD] at HDZ;have HBH:=Hd hbH;have HBD:=Hd hbD;clear hbH hbD;have x1:=HHZ.out.cell 1 rfl;have x2:=HHZ.out.cell 2 rfl;go_enter Tryz.func32,Tryz.ntmps32
 go_upto_region 1 with fail
 rw [<- hz2,<- HBD.out,<- HBH.out];clear hz2;go_wp2_with fail
 refine (HC1.out _).mono ?_;rintro e _ ⟨rfl,rfl⟩;go_wp2_with fail
 refine (HC2.out _).mono ?_;rintro e _ ⟨rfl,rfl⟩;by_cases hpp:(p1 && p2) = true
 ·rw [if_pos hpp] at HR
  rw [Bool.and_eq_true] at hpp;obtain ⟨rfl,rfl⟩:=hpp;clear x1 x2 HC1 HC2;go_wp2_with fail
  refine (HSG.out _ HQZ.out _ HSZ.out).mono ?_;rintro e w1 ⟨v,rfl,hov,hq1⟩;have HQ1:=Hd (HQZ.out.trans hq1);have HH1:=Hd (HHZ.out.q hq1);have HD1:=Hd (HDZ.out.q hq1);have HU:=Hd (HUN.out w1 HQ1.out v (sg r S2) hov.lst (by have:=HLN.out S2;have:=HSZ.out;omega));have hsl:(sg r S2).length <= 500000:=by have:=HLN.out S2;have:=HSZ.out;omega
  obtain ⟨va,vc,rfl⟩:=hov.shape;rw [<- HR.out] at HU;have HUL:=Hd (show ∀ L,R = some L -> L.length <= 500000 from fun L h=>by have:=ung_le (HR.out.symm.trans h);omega);clear hov hq1 hsl HQZ HHZ HDZ HSG HUN HR;generalize sg r S2 = S at *;go_wp2_with fail
  refine HU.out.mono ?_;rintro e w2 ⟨u,rfl,hou,hq2⟩;have HQ2:=Hd (HQ1.out.trans hq2);have HH2:=Hd (HH1.out.q hq2);have HD2:=Hd (HD1.out.q hq2);have hyd:=HYD.out;cases R with
  | none =>
   dsimp only at hyd;have HYE:=Hd hyd;clear hyd;obtain ⟨ua,uc,rfl⟩:=hou.shape;clear hou hq2 HU HQ1 HH1 HD1 HYD;go_wp2_with (refine wpList_store_row (by rfl) 39 _ _ (by rfl) bD #[.bool false,.slice none 0 0,.bool false,.slice none 0 0] (by rfl) (by rfl) 39 _ HD2.out (by exact infoDr) rfl (Rw.all1 (by rfl)) ?_)
   exact Tp.ret_d2 rfl rfl rfl rfl (Rw.Bk_row HD2.out [.bool false,.slice none 0 0,.bool false,.slice none 0 0]) rfl ⟨_,by rw [HYE.out.1];rfl,by rw [HYE.out.2];exact LD.zero _ _,Rw.Q_row HQ2.out HWD.out _⟩
  | some L =>
   dsimp only at hyd;obtain ⟨hy1,hy2⟩:=hyd;have HY1:=Hd hy1;have HY2:=Hd hy2;clear hy1 hy2;have hll:=HUL.out L rfl;obtain ⟨ua,uc,rfl⟩:=hou.shape;have HOF:=Hd (fun g=>Tp.of_any g _ L w2 hou.lst (by omega));have y0:=HH2.out.cell 0 rfl;simp only [Option.getD_some] at HOF;clear hou hq2 HU HQ1 HH1 HD1 HYD HUL;go_wp2_with fail
   refine (HOF.out _).mono ?_;rintro e w3 ⟨x,rfl,hld,hq3⟩;obtain ⟨a1,c1,a2,c2,rfl,ho1,ho2⟩:=hld;obtain ⟨D,hDD⟩:∃ D,D = ofR neg L:=⟨_,rfl⟩;rw [<- hDD] at ho1 ho2 |-;have HDE:=Hd (show RD = D by rw [HY2.out,hDD]);clear hDD;obtain ⟨Dg,Di,Ds,Df⟩:=D;dsimp only at ho1 ho2 |-;obtain ⟨w4,hw4⟩:∃ w4,w4 = w3.alloc (.cells #[.bool Dg,.slice a1 Di.length c1,.bool Ds,.slice a2 Df.length c2] 39):=⟨_,rfl⟩;have hq4:Q w3 w4:=by rw [hw4];exact (Q.refl _).alloc _
   have HB4:=Hd (show Bk w4 w3.heap.size 39 [.bool Dg,.slice a1 Di.length c1,.bool Ds,.slice a2 Df.length c2] by rw [hw4];exact Bk.new _ _ _);obtain ⟨b4,hb4⟩:∃ b,b = w3.heap.size:=⟨_,rfl⟩;rw [<- hb4] at HB4;have HQ4:=Hd (HQ2.out.trans (hq3.trans hq4));have HD4:=Hd (HD2.out.q (hq3.trans hq4));have hle:w.heap.size + 2 <= w2.heap.size + 1:=by have:=HZS.out;have:=HD2.out.lt;have:=HBD.out;omega
   have HL4:=Hd (show LD w4 (w.heap.size + 2) (.agg #[.bool Dg,.slice a1 Di.length c1,.bool Ds,.slice a2 Df.length c2]) ⟨Dg,Di,Ds,Df⟩ from ⟨a1,c1,a2,c2,rfl,(ho1.mono hle).q hq4,(ho2.mono hle).q hq4⟩);clear ho1 ho2 hq3 hq4 y0 hle;generalize Di.length = n1 at *;generalize Df.length = n2 at *;by_cases hC:ofC L = 0
   ·have HYT:=Hd (show RY = true by rw [HY1.out,hC];rfl)
    rw [hC];go_upto_region 9 with fail
    rw [<- hw4,<- hb4];clear hw4 hb4;go_wp2_with (first | (refine wpList_load_row (by rfl) 39 _ (by rfl) b4 (by rfl) 39 #[.bool Dg,.slice a1 n1 c1,.bool Ds,.slice a2 n2 c2] (0,0) _ HB4.out Tryz.underlying39 rfl (by exact infoDr) ?_) | refine wpList_store_row (by rfl) 39 _ _ (by rfl) bD #[.bool Dg,.slice a1 n1 c1,.bool Ds,.slice a2 n2 c2] (by rfl) (by rfl) 39 _ HD4.out (by exact infoDr) rfl (Rw.all1 (by rfl)) ?_)
    refine Tp.ret_d2 rfl rfl rfl rfl (Rw.Bk_row HD4.out [.bool Dg,.slice a1 n1 c1,.bool Ds,.slice a2 n2 c2]) rfl ⟨_,by rw [HYT.out];rfl,by rw [HDE.out];exact LD_row HL4.out HDL.out _,Rw.Q_row HQ4.out HWD.out _⟩
   ·have hce:(ofC L == 0) = false:=beq_eq_false_iff_ne.2 hC
    have HYT:=Hd (show RY = false by rw [HY1.out];exact decide_eq_false hC);generalize ofC L = C at *;clear hC;go_upto_region 9 with fail
    rw [<- hw4,<- hb4];clear hw4 hb4;go_wp2_with (first | (refine wpList_load_row (by rfl) 39 _ (by rfl) b4 (by rfl) 39 #[.bool Dg,.slice a1 n1 c1,.bool Ds,.slice a2 n2 c2] (0,0) _ HB4.out Tryz.underlying39 rfl (by exact infoDr) ?_) | refine wpList_store_row (by rfl) 39 _ _ (by rfl) bD #[.bool Dg,.slice a1 n1 c1,.bool Ds,.slice a2 n2 c2] (by rfl) (by rfl) 39 _ HD4.out (by exact infoDr) rfl (Rw.all1 (by rfl)) ?_)
    refine Tp.ret_d2 rfl rfl rfl rfl (Rw.Bk_row HD4.out [.bool Dg,.slice a1 n1 c1,.bool Ds,.slice a2 n2 c2]) rfl ⟨_,by rw [HYT.out];first | rfl | simp [hce],by rw [HDE.out];exact LD_row HL4.out HDL.out _,Rw.Q_row HQ4.out HWD.out _⟩
 ·have hN:R = none:=by rw [HR.out,if_neg hpp]
  have hyd:=HYD.out;rw [hN] at hyd;dsimp only at hyd;have HYE:=Hd hyd;clear hyd;clear x1 x2 HC1 HC2 HR HYD hN;have hpp2:p1 = false \/ (p1 = true /\ p2 = false):=by revert hpp;cases p1 <;> cases p2 <;> simp
  rcases hpp2 with rfl | ⟨rfl,rfl⟩;all_goals
   clear hpp;go_wp2_with (refine wpList_store_row (by rfl) 39 _ _ (by rfl) bD #[.bool false,.slice none 0 0,.bool false,.slice none 0 0] (by rfl) (by rfl) 39 _ HDZ.out (by exact infoDr) rfl (Rw.all1 (by rfl)) ?_)
   exact Tp.ret_d2 rfl rfl rfl rfl (Rw.Bk_row HDZ.out [.bool false,.slice none 0 0,.bool false,.slice none 0 0]) rfl ⟨_,by rw [HYE.out.1];rfl,by rw [HYE.out.2];exact LD.zero _ _,Rw.Q_row HQZ.out HWD.out _⟩
theorem parse_any (g:Nat) (r:Lm.Rec) (X:Pt.Pat) (a b c d cl:Value) (s:ByteArray) (w:World) (hok:It.LOk r X) (hB:LB w g r X a b c d cl) (hs:s.size <= 500000) :
  Calls Tryz.prog 12 #[.pointer (some ⟨g,0,none⟩),.string s] w fun e w'=>∃ x,e = .returned (.tuple #[x,.int .i64 (cdS (isS r X s))]) /\ LD w' (w.heap.size + 1) x (rd r X s) /\ Q w w':=by
 have HH:=Hd (fun u (q:Q w u)=>halves_any g r X a b c d cl u hok (hB.q q));have H0:=Hd (fun u (q:Q w u)=>read_any g r X a b c d cl false s u (hB.q q) hs);have H1:=Hd (fun u (q:Q w u)=>read_any g r X a b c d cl true s u (hB.q q) hs);have hTW:=Hd (two_halves hok s);unfold hv at H0 H1;clear hok hB hs;generalize (⟨(aB r X false).toArray⟩:ByteArray) = s0 at *;generalize (⟨(bB r X false).toArray⟩:ByteArray) = t0 at *;generalize (⟨(aB r X true).toArray⟩:ByteArray) = s1 at *;generalize (⟨(bB r X true).toArray⟩:ByteArray) = t1 at *;have i0:∀ u,(Instr.index 88 (.agg #[.bool false,.string s0,.string t0,.bool true,.string s1,.string t1]) (.int .i64 0)).run Tryz.prog u = .ok (.agg #[.bool false,.string s0,.string t0]) u:=fun _=>by kernel_rfl
 have i1:∀ u,(Instr.index 88 (.agg #[.bool false,.string s0,.string t0,.bool true,.string s1,.string t1]) (.int .i64 1)).run Tryz.prog u = .ok (.agg #[.bool true,.string s1,.string t1]) u:=fun _=>by kernel_rfl
 obtain ⟨z,hz⟩:∃ y,y = w.alloc (.cells #[.bool false,.slice none 0 0,.bool false,.slice none 0 0] 39):=⟨_,rfl⟩;have HQZ:=Hd (show Q w z by rw [hz];exact (Q.refl w).alloc _);have HDZ:=Hd (show Bk z w.heap.size 39 [.bool false,.slice none 0 0,.bool false,.slice none 0 0] by rw [hz];exact Bk.new _ _ _);obtain ⟨bD,hbD⟩:∃ b,b = w.heap.size:=⟨_,rfl⟩;have HWD:=Hd (show w.heap.size <= bD by omega);have HDL:=Hd (show bD < w.heap.size + 1 by omega);rw [<- hbD] at HDZ;go_enter Tryz.func12,Tryz.ntmps12
 go_upto_region 1 with fail
 rw [<- hz,<- hbD];clear hz hbD;go_wp2_with fail
 refine (HH.out _ HQZ.out).mono ?_;rintro e w1 ⟨rfl,hq1⟩;have HQ1:=Hd (HQZ.out.trans hq1);have HD1:=Hd (HDZ.out.q hq1);clear hq1 HQZ HDZ HH;go_wp2_with fail
 go_loopw [12] (fun i wr=>∃ k:Nat,i = .int .i64 k /\ k <= 2 /\ (1 <= k -> hY r X false s.data.toList = false) /\ (2 <= k -> hY r X true s.data.toList = false) /\ Bk wr bD 39 [.bool false,.slice none 0 0,.bool false,.slice none 0 0] /\ Q w wr) (fun i _=>2 - (intOf i).toNat)
 case atStart=>exact ⟨0,rfl,by omega,fun h=>absurd h (by omega),fun h=>absurd h (by omega),HD1.out,HQ1.out⟩
 case round =>
  obtain ⟨k,rfl,hk,hn1,hn2,hd,hq⟩:=hrel;have HQ:=Hd hq;have HD:=Hd hd;have hn:=Hd (And.intro hn1 hn2);clear hq hd hn1 hn2 HQ1 HD1;have hk3:k = 0 \/ k = 1 \/ k = 2:=by omega
  rcases hk3 with rfl | rfl | rfl
  ·clear hk
   obtain ⟨w3,hw3⟩:∃ u,u = wr.alloc (.cells #[.bool false,.string s0,.string t0] 87):=⟨_,rfl⟩;have hq3:Q wr w3:=by rw [hw3];exact (Q.refl _).alloc _
   have HB3:=Hd (show Bk w3 wr.heap.size 87 [.bool false,.string s0,.string t0] by rw [hw3];exact Bk.new _ _ _);have HQ3:=Hd (HQ.out.trans hq3);have HD3:=Hd (HD.out.q hq3);have HC:=Hd (H0.out w3 HQ3.out);obtain ⟨b3,hb3⟩:∃ b,b = wr.heap.size:=⟨_,rfl⟩;rw [<- hb3] at HB3;clear hq3 HQ HD;go_upto_region 4 with fail
   rw [<- hw3,<- hb3];clear hw3 hb3;go_wp2_with (refine wpList_load_row (by rfl) 87 _ (by rfl) b3 (by rfl) 87 #[.bool false,.string s0,.string t0] (0,0) _ HB3.out Tryz.underlying87 rfl (by exact infoHf) ?_)
   refine HC.out.mono ?_;rintro e w4 ⟨x,rfl,hld,hq4⟩;obtain ⟨a1,c1,a2,c2,rfl,ho1,ho2⟩:=hld;obtain ⟨D,hDD⟩:∃ D,D = hD r X false s.data.toList:=⟨_,rfl⟩;rw [<- hDD] at ho1 ho2 |-;have HE:=Hd hDD;clear hDD;obtain ⟨Dg,Di,Ds,Df⟩:=D;dsimp only at ho1 ho2 |-;have HQ4:=Hd (HQ3.out.trans hq4);have HD4:=Hd (HD3.out.q hq4);have hle:w.heap.size + 1 <= w3.heap.size + 2:=by have:=HQ3.out.le;omega
   have HO1:=Hd (ho1.mono hle);have HO2:=Hd (ho2.mono hle);obtain ⟨w5,hw5⟩:∃ u,u = w4.alloc (.cells #[.bool Dg,.slice a1 Di.length c1,.bool Ds,.slice a2 Df.length c2] 39):=⟨_,rfl⟩;have hq5:Q w4 w5:=by rw [hw5];exact (Q.refl _).alloc _
   have HB5:=Hd (show Bk w5 w4.heap.size 39 [.bool Dg,.slice a1 Di.length c1,.bool Ds,.slice a2 Df.length c2] by rw [hw5];exact Bk.new _ _ _);have HQ5:=Hd (HQ4.out.trans hq5);have HD5:=Hd (HD4.out.q hq5);have HL5:=Hd (show LD w5 (w.heap.size + 1) (.agg #[.bool Dg,.slice a1 Di.length c1,.bool Ds,.slice a2 Df.length c2]) ⟨Dg,Di,Ds,Df⟩ from ⟨a1,c1,a2,c2,rfl,HO1.out.q hq5,HO2.out.q hq5⟩);obtain ⟨b5,hb5⟩:∃ b,b = w4.heap.size:=⟨_,rfl⟩;rw [<- hb5] at HB5;clear hq4 ho1 ho2 hle hq5 HO1 HO2 HQ4 HD4 HD3 HQ3 HC HB3;generalize Di.length = n1 at *;generalize Df.length = n2 at *;cases hy:hY r X false s.data.toList
   ·have HY:=Hd hy
    clear hy;go_upto_region 5 with fail
    rw [<- hw5,<- hb5];clear hw5 hb5;go_wp2_with fail
    exact ⟨⟨1,rfl,by omega,fun _=>HY.out,fun h=>absurd h (by omega),HD5.out,HQ5.out⟩,by simp [intOf]⟩
   ·have HR:=Hd (hTW.out.2.1 hy)
    have HS:=Hd (show isS r X s = true by rw [<- hTW.out.1,hy];rfl);clear hy;go_upto_region 5 with fail
    rw [<- hw5,<- hb5];clear hw5 hb5;go_wp2_with (first | (refine wpList_load_row (by rfl) 39 _ (by rfl) b5 (by rfl) 39 #[.bool Dg,.slice a1 n1 c1,.bool Ds,.slice a2 n2 c2] (0,0) _ HB5.out Tryz.underlying39 rfl (by exact infoDr) ?_) | refine wpList_store_row (by rfl) 39 _ _ (by rfl) bD #[.bool Dg,.slice a1 n1 c1,.bool Ds,.slice a2 n2 c2] (by rfl) (by rfl) 39 _ HD5.out (by exact infoDr) rfl (Rw.all1 (by rfl)) ?_)
    refine Tp.ret_d2 rfl rfl rfl rfl (Rw.Bk_row HD5.out [.bool Dg,.slice a1 n1 c1,.bool Ds,.slice a2 n2 c2]) rfl ⟨_,by rw [HS.out];rfl,?_,Rw.Q_row HQ5.out HWD.out _⟩;rw [<- HR.out,<- HE.out];exact LD_row HL5.out HDL.out _
  ·clear hk
   obtain ⟨w3,hw3⟩:∃ u,u = wr.alloc (.cells #[.bool true,.string s1,.string t1] 87):=⟨_,rfl⟩;have hq3:Q wr w3:=by rw [hw3];exact (Q.refl _).alloc _
   have HB3:=Hd (show Bk w3 wr.heap.size 87 [.bool true,.string s1,.string t1] by rw [hw3];exact Bk.new _ _ _);have HQ3:=Hd (HQ.out.trans hq3);have HD3:=Hd (HD.out.q hq3);have HC:=Hd (H1.out w3 HQ3.out);obtain ⟨b3,hb3⟩:∃ b,b = wr.heap.size:=⟨_,rfl⟩;rw [<- hb3] at HB3;clear hq3 HQ HD;go_upto_region 4 with fail
   rw [<- hw3,<- hb3];clear hw3 hb3;go_wp2_with (refine wpList_load_row (by rfl) 87 _ (by rfl) b3 (by rfl) 87 #[.bool true,.string s1,.string t1] (0,0) _ HB3.out Tryz.underlying87 rfl (by exact infoHf) ?_)
   refine HC.out.mono ?_;rintro e w4 ⟨x,rfl,hld,hq4⟩;obtain ⟨a1,c1,a2,c2,rfl,ho1,ho2⟩:=hld;obtain ⟨D,hDD⟩:∃ D,D = hD r X true s.data.toList:=⟨_,rfl⟩;rw [<- hDD] at ho1 ho2 |-;have HE:=Hd hDD;clear hDD;obtain ⟨Dg,Di,Ds,Df⟩:=D;dsimp only at ho1 ho2 |-;have HQ4:=Hd (HQ3.out.trans hq4);have HD4:=Hd (HD3.out.q hq4);have hle:w.heap.size + 1 <= w3.heap.size + 2:=by have:=HQ3.out.le;omega
   have HO1:=Hd (ho1.mono hle);have HO2:=Hd (ho2.mono hle);obtain ⟨w5,hw5⟩:∃ u,u = w4.alloc (.cells #[.bool Dg,.slice a1 Di.length c1,.bool Ds,.slice a2 Df.length c2] 39):=⟨_,rfl⟩;have hq5:Q w4 w5:=by rw [hw5];exact (Q.refl _).alloc _
   have HB5:=Hd (show Bk w5 w4.heap.size 39 [.bool Dg,.slice a1 Di.length c1,.bool Ds,.slice a2 Df.length c2] by rw [hw5];exact Bk.new _ _ _);have HQ5:=Hd (HQ4.out.trans hq5);have HD5:=Hd (HD4.out.q hq5);have HL5:=Hd (show LD w5 (w.heap.size + 1) (.agg #[.bool Dg,.slice a1 Di.length c1,.bool Ds,.slice a2 Df.length c2]) ⟨Dg,Di,Ds,Df⟩ from ⟨a1,c1,a2,c2,rfl,HO1.out.q hq5,HO2.out.q hq5⟩);obtain ⟨b5,hb5⟩:∃ b,b = w4.heap.size:=⟨_,rfl⟩;rw [<- hb5] at HB5;clear hq4 ho1 ho2 hle hq5 HO1 HO2 HQ4 HD4 HD3 HQ3 HC HB3;generalize Di.length = n1 at *;generalize Df.length = n2 at *;cases hy:hY r X true s.data.toList
   ·have HY:=Hd hy
    clear hy;go_upto_region 5 with fail
    rw [<- hw5,<- hb5];clear hw5 hb5;go_wp2_with fail
    exact ⟨⟨2,rfl,by omega,fun _=>hn.out.1 (by omega),fun _=>HY.out,HD5.out,HQ5.out⟩,by simp [intOf]⟩
   ·have HR:=Hd (hTW.out.2.2 (hn.out.1 (by omega)) hy)
    have HS:=Hd (show isS r X s = true by rw [<- hTW.out.1,hy];simp);clear hy;go_upto_region 5 with fail
    rw [<- hw5,<- hb5];clear hw5 hb5;go_wp2_with (first | (refine wpList_load_row (by rfl) 39 _ (by rfl) b5 (by rfl) 39 #[.bool Dg,.slice a1 n1 c1,.bool Ds,.slice a2 n2 c2] (0,0) _ HB5.out Tryz.underlying39 rfl (by exact infoDr) ?_) | refine wpList_store_row (by rfl) 39 _ _ (by rfl) bD #[.bool Dg,.slice a1 n1 c1,.bool Ds,.slice a2 n2 c2] (by rfl) (by rfl) 39 _ HD5.out (by exact infoDr) rfl (Rw.all1 (by rfl)) ?_)
    refine Tp.ret_d2 rfl rfl rfl rfl (Rw.Bk_row HD5.out [.bool Dg,.slice a1 n1 c1,.bool Ds,.slice a2 n2 c2]) rfl ⟨_,by rw [HS.out];rfl,?_,Rw.Q_row HQ5.out HWD.out _⟩;rw [<- HR.out,<- HE.out];exact LD_row HL5.out HDL.out _
  ·have HS:=Hd (show isS r X s = false by rw [<- hTW.out.1,hn.out.1 (by omega),hn.out.2 (by omega)];rfl)
   clear hk;go_wp2_with (refine wpList_store_row (by rfl) 39 _ _ (by rfl) bD #[.bool false,.slice none 0 0,.bool false,.slice none 0 0] (by rfl) (by rfl) 39 _ HD.out (by exact infoDr) rfl (Rw.all1 (by rfl)) ?_)
   refine Tp.ret_d2 rfl rfl rfl rfl (Rw.Bk_row HD.out [.bool false,.slice none 0 0,.bool false,.slice none 0 0]) rfl ⟨_,by rw [HS.out];rfl,?_,Rw.Q_row HQ.out HWD.out _⟩;rw [rd_none HS.out];exact LD.zero _ _
theorem is_any (g:Nat) (r:Lm.Rec) (X:Pt.Pat) (a b c d cl:Value) (s:ByteArray) (w:World) (hok:It.LOk r X) (hB:LB w g r X a b c d cl) (hs:s.size <= 500000) :
  Calls Tryz.prog 17 #[.pointer (some ⟨g,0,none⟩),.string s] w fun e w'=>e = .returned (.bool (isS r X s)) /\ Q w w':=by
 have HP:=Hd (fun u (q:Q w u)=>parse_any g r X a b c d cl s u hok (hB.q q) hs);clear hok hB hs;generalize isS r X s = I at *;go_enter Tryz.func17,Tryz.ntmps17
 go_wp2_with fail
 refine (HP.out _ (Q.refl _)).mono ?_;rintro e w1 ⟨x,rfl,hld,hq1⟩;obtain ⟨a1,c1,a2,c2,rfl,ho1,ho2⟩:=hld;have HQ1:=Hd hq1;generalize rd r X s = D at *;obtain ⟨Dg,Di,Ds,Df⟩:=D;dsimp only;clear ho1 ho2 hq1;cases I
 ·have hcd:cdS false = 2:=rfl
  rw [hcd];go_wp2_with fail
  go_ret
  exact ⟨rfl,HQ1.out.alloc _⟩
 ·have hcd:cdS true = 0:=rfl
  rw [hcd];go_wp2_with fail
  go_ret
  exact ⟨rfl,HQ1.out.alloc _⟩
end Sp
end
section
open Go.RowKit
namespace Sp
open Um Lo Sx Tm
theorem same_refl (va vb:Value) (xs:List Int) (w:World) (ha:Lst w va xs) (hb:Lst w vb xs) (hx:xs.length < 1099511627776) :
  Calls Tryz.prog 34 #[va,vb] w fun e w'=>e = .returned (.bool true) /\ Q w w':=by
 refine (Ur.same_any va vb xs xs w ha hb hx hx).mono ?_;rintro e w' ⟨rfl,hq⟩;exact ⟨by simp,hq⟩
theorem live_one (g:Nat) (a b c d cl:Value) (u:World) (hB:LB u g lr lX a b c d cl):Calls Tryz.prog 12 #[.pointer (some ⟨g,0,none⟩),.string ⟨#[36,48,49,44,50,51,52,46,53,48]⟩] u fun e w'=>∃ a1 c1 a2 c2,e = .returned (.tuple #[.agg #[.bool false,.slice a1 5 c1,.bool true,.slice a2 2 c2],.int .i64 0]) /\ Lst w' (.slice a1 5 c1) [0,1,2,3,4] /\ Lst w' (.slice a2 2 c2) [5,0] /\ Q u w':=by
 refine (Sp.parse_any g lr lX a b c d cl ex1 u lr_lok hB (by decide)).mono ?_;rintro e w' ⟨x,rfl,hld,hq⟩;obtain ⟨a1,c1,a2,c2,rfl,ho1,ho2⟩:=hld;obtain ⟨h1,h2,h3,h4⟩:=ex1_rd;rw [ex1_shown];generalize rd lr lX ex1 = D at *;obtain ⟨Dg,Di,Ds,Df⟩:=D;dsimp only at *;subst h1 h2 h3 h4;exact ⟨a1,c1,a2,c2,rfl,ho1.lst,ho2.lst,hq⟩
theorem live_two (g:Nat) (a b c d cl:Value) (u:World) (hB:LB u g lr lX a b c d cl):Calls Tryz.prog 12 #[.pointer (some ⟨g,0,none⟩),.string ⟨#[36,49,50,51,52]⟩] u fun e w'=>∃ a1 c1 a2 c2,e = .returned (.tuple #[.agg #[.bool false,.slice a1 0 c1,.bool false,.slice a2 0 c2],.int .i64 2]) /\ Q u w':=by
 refine (Sp.parse_any g lr lX a b c d cl ex2 u lr_lok hB (by decide)).mono ?_;rintro e w' ⟨x,rfl,hld,hq⟩;obtain ⟨a1,c1,a2,c2,rfl,ho1,ho2⟩:=hld;rw [rd_none ex2_none,ex2_none];exact ⟨a1,c1,a2,c2,rfl,hq⟩
theorem lives_any (w:World):Calls Tryz.prog 18 #[] w fun e w'=>e = .returned (.bool true) /\ Q w w':=by
 have HN:Hid (∀ u,Calls Tryz.prog 29 #[.agg #[.string ⟨#[101,110]⟩,.string ⟨#[36,35,44,35,35,48,46,48,48]⟩,.string ⟨#[108,97,116,110]⟩,.string ⟨#[46]⟩,.string ⟨#[44]⟩,.string ⟨#[45]⟩,.string ⟨#[]⟩,.string ⟨#[]⟩]] u fun e w'=>∃ g a b c d cl,e = .returned (.tuple #[.pointer (some ⟨g,0,none⟩),Value.nilIface]) /\ LB w' g lr lX a b c d cl /\ Q u w'):=Hd lr_new;go_enter Tryz.func18,Tryz.ntmps18
 go_wp2_with fail
 refine (HN.out _).mono ?_;rintro e w1 ⟨g,a,b,c,d,cl,rfl,hB,hq1⟩;have H1:=Hd (live_one g a b c d cl w1 hB);have H2:=Hd (fun u (q:Q w1 u)=>live_two g a b c d cl u (hB.q q));have HQ1:=Hd hq1;clear hB hq1 HN;go_wp2_with fail
 refine H1.out.mono ?_;rintro e w2 ⟨a1,c1,a2,c2,rfl,hl1,hl2,hq2⟩;obtain ⟨w3,hw3⟩:∃ u,u = w2.alloc (.cells #[.bool false,.slice a1 5 c1,.bool true,.slice a2 2 c2] 39):=⟨_,rfl⟩;have hq3:Q w2 w3:=by rw [hw3];exact (Q.refl _).alloc _
 have HB3:=Hd (show Bk w3 w2.heap.size 39 [.bool false,.slice a1 5 c1,.bool true,.slice a2 2 c2] by rw [hw3];exact Bk.new _ _ _);obtain ⟨b3,hb3⟩:∃ b,b = w2.heap.size:=⟨_,rfl⟩;rw [<- hb3] at HB3;have HQ3:=Hd (hq2.trans hq3);have HL1:=Hd (hl1.q hq3);have HL2:=Hd (hl2.q hq3);clear hl1 hl2 hq2 hq3 H1;go_upto_region 5 with fail
 rw [<- hw3,<- hb3];clear hw3 hb3;go_wp2_with fail
 refine (H2.out _ HQ3.out).mono ?_;rintro e w4 ⟨e1,f1,e2,f2,rfl,hq4⟩;obtain ⟨w5,hw5⟩:∃ u,u = w4.alloc (.cells #[.bool false,.slice e1 0 f1,.bool false,.slice e2 0 f2] 39):=⟨_,rfl⟩;have hq5:Q w4 w5:=by rw [hw5];exact (Q.refl _).alloc _
 have HB5:=Hd (HB3.out.q (hq4.trans hq5));have HQ5:=Hd (HQ3.out.trans (hq4.trans hq5));have HL15:=Hd (HL1.out.q (hq4.trans hq5));have HL25:=Hd (HL2.out.q (hq4.trans hq5));clear hq4 hq5 HB3 HQ3 HL1 HL2 H2;go_upto_region 6 with fail
 rw [<- hw5];clear hw5;have x1:=HB5.out.cell 1 rfl;have hqa:Q w5 (w5.alloc (.cells #[.int .i64 0,.int .i64 1,.int .i64 2,.int .i64 3,.int .i64 4] 3)):=(Q.refl _).alloc _;have HE1:=Hd (same_refl _ _ [0,1,2,3,4] _ (HL15.out.q hqa) (Lst.made w5 [0,1,2,3,4] 5 rfl (by unfold maxLen;omega)) (by decide));have HQA:=Hd hqa;clear hqa;go_wp2_with fail
 refine HE1.out.mono ?_;rintro e w6 ⟨rfl,hq6⟩;have hqb:Q w6 (w6.alloc (.cells #[.int .i64 5,.int .i64 0] 3)):=(Q.refl _).alloc _;have hq56:=HQA.out.trans hq6;have x3:=(HB5.out.q hq56).cell 3 rfl;have HE2:=Hd (same_refl _ _ [5,0] _ (HL25.out.q (hq56.trans hqb)) (Lst.made w6 [5,0] 2 rfl (by unfold maxLen;omega)) (by decide));have HQ6:=Hd (HQ1.out.trans (HQ5.out.trans (hq56.trans hqb)));clear hqb hq56 hq6 x1 HE1;go_wp2_with fail
 refine HE2.out.mono ?_;rintro e w7 ⟨rfl,hq7⟩;have HQ7:=Hd (HQ6.out.trans hq7);clear hq7;go_wp2_with fail
 go_ret
 exact ⟨rfl,HQ7.out⟩
end Sp
end
end Go.Proofs.YtdjhkbholijnmaaGreatDoor
