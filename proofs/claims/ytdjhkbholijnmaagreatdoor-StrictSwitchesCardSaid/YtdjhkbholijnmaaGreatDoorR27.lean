/- What is asked of each of a list, and answered no; the affixes; their clusters. (and more) -/
import Derived.Test.YtdjhkbholijnmaaGreatDoorR26
set_option linter.all false
set_option maxRecDepth 100000
set_option maxHeartbeats 8000000
namespace Go.Proofs.YtdjhkbholijnmaaGreatDoor
section
open Go.RowKit
namespace Lo
open Um Cm Gm
theorem idxL (g:Nat) (fst cap:Array Value) (eg:∀ args w,(callFunc g args).run Tryz.prog w = .ok (.enter g args) w) (v:Value) (vs:List Value) (w:World) (hv:GLst id w v vs) (hx:vs.length <= 1000000)
  (hp:∀ (k:Nat) (x:Value),vs[k]? = some x -> ∀ u,Q w u -> Calls Tryz.prog g (fst ++ #[x] ++ cap) u fun e w'=>e = .returned (.bool false) /\ Q u w') :
  Calls Tryz.prog 157 #[v,.func (.func g) fst cap] w fun e w'=>e = .returned (.int .i64 (-1)) /\ Q w w':=by
 obtain ⟨n,hn⟩:∃ n,n = vs.length:=⟨_,rfl⟩;have HN:=Hd hn;have HV:=Hd hv;have HP:=Hd hp;obtain ⟨a,cp,rfl,hc1,hc2⟩:=hv.form0 hn.symm;rw [<- hn] at hx;clear hn hv hp;go_enter Tryz.func157,Tryz.ntmps157
 go_wp2_with fail
 go_loopw [8] (fun i wr=>∃ k:Nat,i = .int .i64 k /\ k <= n /\ Q w wr) (fun i _=>n - (intOf i).toNat)
 case atStart=>exact ⟨0,rfl,by omega,Q.refl _⟩
 case round =>
  obtain ⟨k,rfl,hk,hq⟩:=hrel;by_cases hlt:k < n
  ·have hlti:(k:Int) < (n:Int):=by omega
   have hkl:k < vs.length:=by have:=HN.out;omega
   obtain ⟨x,hx2⟩:∃ x,vs[k]? = some x:=⟨vs[k],List.getElem?_eq_getElem hkl⟩;obtain ⟨gg,off,cp',hvv,hg,_,_,c1⟩:=(HV.out.q hq).cellOf HN.out.symm hx2;cases hvv;have hc:=HP.out k x hx2 wr hq;clear hx2;go_wp2_with (go_at_fn g;refine hc.mono ?_;rintro e w' ⟨rfl,hq'⟩)
   exact ⟨⟨k + 1,by go_num,by omega,hq.trans hq'⟩,by simp [intOf];omega⟩
  ·have hnlt:¬ (k:Int) < (n:Int):=by omega
   go_wp2_with fail
   go_ret
   exact ⟨rfl,hq⟩
theorem noL (g:Nat) (fst cap:Array Value) (eg:∀ args w,(callFunc g args).run Tryz.prog w = .ok (.enter g args) w) (v:Value) (vs:List Value) (w:World) (hv:GLst id w v vs) (hx:vs.length <= 1000000)
  (hp:∀ (k:Nat) (x:Value),vs[k]? = some x -> ∀ u,Q w u -> Calls Tryz.prog g (fst ++ #[x] ++ cap) u fun e w'=>e = .returned (.bool false) /\ Q u w') :
  Calls Tryz.prog 105 #[v,.func (.func g) fst cap] w fun e w'=>e = .returned (.bool false) /\ Q w w':=by
 have HI:=Hd (idxL g fst cap eg v vs w hv hx hp);obtain ⟨a,cp,rfl⟩:=hv.shape;generalize vs.length = n at *;clear hv hx hp eg;go_enter Tryz.func105,Tryz.ntmps105
 go_wp2_with fail
 refine HI.out.mono ?_;rintro e w' ⟨rfl,hq'⟩;go_wp2_with fail
 go_ret
 exact ⟨rfl,hq'⟩
theorem idxS (g:Nat) (fst cap:Array Value) (eg:∀ args w,(callFunc g args).run Tryz.prog w = .ok (.enter g args) w) (v:Value) (vs:List ByteArray) (w:World) (hv:SLst w v vs) (hx:vs.length <= 1000000)
  (hp:∀ (k:Nat) (x:ByteArray),vs[k]? = some x -> ∀ u,Q w u -> Calls Tryz.prog g (fst ++ #[.string x] ++ cap) u fun e w'=>e = .returned (.bool false) /\ Q u w') :
  Calls Tryz.prog 163 #[v,.func (.func g) fst cap] w fun e w'=>e = .returned (.int .i64 (-1)) /\ Q w w':=by
 obtain ⟨n,hn⟩:∃ n,n = vs.length:=⟨_,rfl⟩;have HN:=Hd hn;have HV:=Hd hv;have HP:=Hd hp;obtain ⟨a,cp,rfl,hc1,hc2⟩:=hv.form0 hn.symm;rw [<- hn] at hx;clear hn hv hp;go_enter Tryz.func163,Tryz.ntmps163
 go_wp2_with fail
 go_loopw [8] (fun i wr=>∃ k:Nat,i = .int .i64 k /\ k <= n /\ Q w wr) (fun i _=>n - (intOf i).toNat)
 case atStart=>exact ⟨0,rfl,by omega,Q.refl _⟩
 case round =>
  obtain ⟨k,rfl,hk,hq⟩:=hrel;by_cases hlt:k < n
  ·have hlti:(k:Int) < (n:Int):=by omega
   have hkl:k < vs.length:=by have:=HN.out;omega
   obtain ⟨x,hx2⟩:∃ x,vs[k]? = some x:=⟨vs[k],List.getElem?_eq_getElem hkl⟩;obtain ⟨gg,off,cp',hvv,hg,_,_,c1⟩:=(HV.out.q hq).cellOf HN.out.symm hx2;cases hvv;have hc:=HP.out k x hx2 wr hq;clear hx2;go_wp2_with (go_at_fn g;refine hc.mono ?_;rintro e w' ⟨rfl,hq'⟩)
   exact ⟨⟨k + 1,by go_num,by omega,hq.trans hq'⟩,by simp [intOf];omega⟩
  ·have hnlt:¬ (k:Int) < (n:Int):=by omega
   go_wp2_with fail
   go_ret
   exact ⟨rfl,hq⟩
theorem noS (g:Nat) (fst cap:Array Value) (eg:∀ args w,(callFunc g args).run Tryz.prog w = .ok (.enter g args) w) (v:Value) (vs:List ByteArray) (w:World) (hv:SLst w v vs) (hx:vs.length <= 1000000)
  (hp:∀ (k:Nat) (x:ByteArray),vs[k]? = some x -> ∀ u,Q w u -> Calls Tryz.prog g (fst ++ #[.string x] ++ cap) u fun e w'=>e = .returned (.bool false) /\ Q u w') :
  Calls Tryz.prog 115 #[v,.func (.func g) fst cap] w fun e w'=>e = .returned (.bool false) /\ Q w w':=by
 have HI:=Hd (idxS g fst cap eg v vs w hv hx hp);obtain ⟨a,cp,rfl⟩:=hv.shape;generalize vs.length = n at *;clear hv hx hp eg;go_enter Tryz.func115,Tryz.ntmps115
 go_wp2_with fail
 refine HI.out.mono ?_;rintro e w' ⟨rfl,hq'⟩;go_wp2_with fail
 go_ret
 exact ⟨rfl,hq'⟩
theorem idxP (g:Nat) (fst cap:Array Value) (eg:∀ args w,(callFunc g args).run Tryz.prog w = .ok (.enter g args) w) (v:Value) (vs:List Pc.E) (w:World) (hv:Pc.LstP w v vs) (hx:vs.length <= 1000000)
  (hp:∀ (k:Nat) (x:Pc.E),vs[k]? = some x -> ∀ u,Q w u -> Calls Tryz.prog g (fst ++ #[.agg #[.int .i64 x.1,Pc.txt x.2]] ++ cap) u fun e w'=>e = .returned (.bool false) /\ Q u w') :
  Calls Tryz.prog 194 #[v,.func (.func g) fst cap] w fun e w'=>e = .returned (.int .i64 (-1)) /\ Q w w':=by
 obtain ⟨n,hn⟩:∃ n,n = vs.length:=⟨_,rfl⟩;have HN:=Hd hn;have HV:=Hd hv;have HP:=Hd hp;obtain ⟨a,cp,rfl,hc1,hc2⟩:=hv.form0 hn.symm;rw [<- hn] at hx;clear hn hv hp;go_enter Tryz.func194,Tryz.ntmps194
 go_wp2_with fail
 go_loopw [8] (fun i wr=>∃ k:Nat,i = .int .i64 k /\ k <= n /\ Q w wr) (fun i _=>n - (intOf i).toNat)
 case atStart=>exact ⟨0,rfl,by omega,Q.refl _⟩
 case round =>
  obtain ⟨k,rfl,hk,hq⟩:=hrel;by_cases hlt:k < n
  ·have hlti:(k:Int) < (n:Int):=by omega
   have hkl:k < vs.length:=by have:=HN.out;omega
   obtain ⟨gg,off,cp',hvv,hg,_,_,c1,c2⟩:=(HV.out.q hq).cellOf HN.out.symm hlt;cases hvv;obtain ⟨x,hxg⟩:∃ x,x = vs.getD k (0,[]):=⟨_,rfl⟩;have hx2:vs[k]? = some x:=by rw [hxg,List.getD_eq_getElem?_getD,List.getElem?_eq_getElem hkl];rfl
   rw [<- hxg] at c1 c2;have hc:=HP.out k x hx2 wr hq;unfold Pc.txt at c2 hc;clear hx2 hxg;go_wp2_with (go_at_fn g;refine hc.mono ?_;rintro e w' ⟨rfl,hq'⟩)
   exact ⟨⟨k + 1,by go_num,by omega,hq.trans hq'⟩,by simp [intOf];omega⟩
  ·have hnlt:¬ (k:Int) < (n:Int):=by omega
   go_wp2_with fail
   go_ret
   exact ⟨rfl,hq⟩
theorem noP (g:Nat) (fst cap:Array Value) (eg:∀ args w,(callFunc g args).run Tryz.prog w = .ok (.enter g args) w) (v:Value) (vs:List Pc.E) (w:World) (hv:Pc.LstP w v vs) (hx:vs.length <= 1000000)
  (hp:∀ (k:Nat) (x:Pc.E),vs[k]? = some x -> ∀ u,Q w u -> Calls Tryz.prog g (fst ++ #[.agg #[.int .i64 x.1,Pc.txt x.2]] ++ cap) u fun e w'=>e = .returned (.bool false) /\ Q u w') :
  Calls Tryz.prog 158 #[v,.func (.func g) fst cap] w fun e w'=>e = .returned (.bool false) /\ Q w w':=by
 have HI:=Hd (idxP g fst cap eg v vs w hv hx hp);obtain ⟨a,cp,rfl⟩:=hv.shape;generalize vs.length = n at *;clear hv hx hp eg;go_enter Tryz.func158,Tryz.ntmps158
 go_wp2_with fail
 refine HI.out.mono ?_;rintro e w' ⟨rfl,hq'⟩;go_wp2_with fail
 go_ret
 exact ⟨rfl,hq'⟩
/-! ### affixes -/
theorem alloc_size (w:World) (o:Obj):(w.alloc o).heap.size = w.heap.size + 1:=by
 show (w.heap.push o).size = w.heap.size + 1;simp
theorem affixes_any (g:Nat) (r:Lm.Rec) (X:Pt.Pat) (a b c d cl:Value) (w:World) (hB:LB w g r X a b c d cl) :
  Calls Tryz.prog 106 #[.pointer (some ⟨g,0,none⟩)] w fun e w'=>∃ v,e = .returned v /\ GLst id w' v [a,b,c,d] /\ Q w w':=by
 have c8:=hB.1.cell 8 rfl;have c9:=hB.1.cell 9 rfl;have c10:=hB.1.cell 10 rfl;have c11:=hB.1.cell 11 rfl;have c12:=hB.1.cell 12 rfl;have c13:=hB.1.cell 13 rfl;have c14:=hB.1.cell 14 rfl;have c15:=hB.1.cell 15 rfl;have c16:=hB.1.cell 16 rfl;obtain ⟨a1,a2,rfl⟩:=hB.2.1.shape;obtain ⟨b1,b2,rfl⟩:=hB.2.2.1.shape;obtain ⟨d1,d2,rfl⟩:=hB.2.2.2.1.shape;obtain ⟨e1,e2,rfl⟩:=hB.2.2.2.2.shape;generalize X.pre.length = n1 at *;generalize X.suf.length = n2 at *;generalize X.npre.length = n3 at *;generalize X.nsuf.length = n4 at *;generalize X.pr = p1 at *;generalize X.se = p2 at *;generalize X.mi = p3 at *;generalize X.mf = p4 at *;generalize X.xf = p5 at *;clear hB;go_enter Tryz.func106,Tryz.ntmps106
 go_wp2_with fail
 go_ret
 have hm:=GLst.made id 118 (w.alloc (.cells #[.slice a1 n1 a2,.slice b1 n2 b2,.slice d1 n3 d2,.slice e1 n4 e2,.int .i64 p1,.int .i64 p2,.int .i64 p3,.int .i64 p4,.int .i64 p5] 120)) [.slice a1 n1 a2,.slice b1 n2 b2,.slice d1 n3 d2,.slice e1 n4 e2] 4 rfl (by unfold maxLen;omega);rw [alloc_size] at hm;exact ⟨_,rfl,hm,((Q.refl w).alloc _).alloc _⟩
theorem aff_at {w:World} {g:Nat} {r:Lm.Rec} {X:Pt.Pat} {a b c d cl:Value} (hB:LB w g r X a b c d cl) {k:Nat} {x:Value} (h:[a,b,c,d][k]? = some x):∃ A,(Lm.affs X)[k]? = some A /\ A ∈ Lm.affs X /\ Pc.LstP w x A:=by
 match k,h with
 | 0,h=>simp at h;subst h;exact ⟨X.pre,rfl,by simp [Lm.affs],hB.2.1⟩
 | 1,h=>simp at h;subst h;exact ⟨X.suf,rfl,by simp [Lm.affs],hB.2.2.1⟩
 | 2,h=>simp at h;subst h;exact ⟨X.npre,rfl,by simp [Lm.affs],hB.2.2.2.1⟩
 | 3,h=>simp at h;subst h;exact ⟨X.nsuf,rfl,by simp [Lm.affs],hB.2.2.2.2⟩
 | k + 4,h=>simp at h
theorem aff_len (a b c d:Value):[a,b,c,d].length <= 1000000:=by simp
/-! ### literals that are not plain -/
theorem rough1_no (k:Int) (t:List UInt8) (w:World) (ht:t.length <= 1000000) (h:k = 0 -> plainB (allL t) = true) :
  Calls Tryz.prog 159 #[.agg #[.int .i64 k,.string ⟨t.toArray⟩]] w fun e w'=>e = .returned (.bool false) /\ Q w w':=by
 by_cases h0:k = 0
 ·subst h0
  have hpl:=h rfl;have hsz:(⟨t.toArray⟩:ByteArray).size = t.length:=by simp [ByteArray.size]
  have hsl:(⟨t.toArray⟩:ByteArray).data.toList = t:=by simp
  have hml:=marks_length t;have hal:(allL t).length <= 1073741824:=by unfold allL;rw [List.length_map];omega
  have ha:=fun w=>all_any (⟨t.toArray⟩:ByteArray) w (by omega);rw [hsl] at ha;have hp:=fun v w hv=>plain_any v (allL t) w hv hal;rw [hpl] at hp;have HA:=Hd ha;have HP:=Hd hp;generalize (⟨t.toArray⟩:ByteArray) = T at *;generalize allL t = A at *;clear ha hp h hpl hsz hsl hml hal ht;go_enter Tryz.func159,Tryz.ntmps159
  go_wp2_with fail
  refine (HA.out _).mono ?_;rintro e w1 ⟨v1,rfl,hv1,hq1⟩;go_wp2_with fail
  refine (HP.out _ _ hv1.lst).mono ?_;rintro e w2 ⟨rfl,hq2⟩;go_wp2_with fail
  go_ret
  exact ⟨rfl,Q.trans ((Q.refl w).alloc _) (hq1.trans hq2)⟩
 ·have hb:(k == 0) = false:=beq_eq_false_iff_ne.2 h0
  generalize (⟨t.toArray⟩:ByteArray) = T at *;clear h ht h0;go_enter Tryz.func159,Tryz.ntmps159
  go_wp2_with fail
  go_ret
  exact ⟨rfl,(Q.refl w).alloc _⟩
theorem rough_no (v:Value) (A:List Pc.E) (w:World) (hv:Pc.LstP w v A) (hA:A.length <= 1000000) (h:∀ x ∈ A,x.2.length <= 1000000 /\ (x.1 = 0 -> plainB (allL x.2) = true)) :
  Calls Tryz.prog 107 #[v] w fun e w'=>e = .returned (.bool false) /\ Q w w':=by
 have HI:=Hd (noP 159 #[] #[] (enters_of Tryz.func159 (by kernel_rfl) rfl) v A w hv hA (fun k x hx u _=>by
  have hm:=List.mem_of_getElem? hx;exact rough1_no x.1 x.2 u (h x hm).1 (h x hm).2))
 obtain ⟨a,cp,rfl⟩:=hv.shape;generalize A.length = n at *;clear hv hA h;go_enter Tryz.func107,Tryz.ntmps107
 go_wp2_with fail
 refine HI.out.mono ?_;rintro e w' ⟨rfl,hq'⟩;go_wp2_with fail
 go_ret
 exact ⟨rfl,hq'⟩
end Lo
end
end Go.Proofs.YtdjhkbholijnmaaGreatDoor
