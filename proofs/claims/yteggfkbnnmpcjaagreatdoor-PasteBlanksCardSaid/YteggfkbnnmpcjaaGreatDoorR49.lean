/- The reader of a text from elsewhere, cluster by cluster. (and more) -/
import Derived.Test.YteggfkbnnmpcjaaGreatDoorR48
set_option linter.all false
set_option maxRecDepth 100000
set_option maxHeartbeats 8000000
namespace Go.Proofs.YteggfkbnnmpcjaaGreatDoor
section
open Go.RowKit
namespace Ps
open Im Sx
theorem run_cons (k:Int) (l:List Int) (g:Bool) (a:List Int) (c:Bool):run (k :: l) g a c = if k < 0 then (false,[],2) else if k = 11 then run l g a c else if k = 12 then (if g = true then (false,[],5) else run l true a (decide (0 < a.length))) else if c = true then (false,[],5) else if k = 10 /\ 10 ∈ a then (false,[],6) else run l g (a ++ [k]) c:=rfl
structure RD (u:World) (B b:Nat) (g:Bool) (v:Value) (a:List Int) (c:Bool) (fd fs fg:Value):Prop where
 rb:RB u B b g v a fd fs fg
 cg:c = true -> g = true
 d0:c = false -> fd = .func (.func 74) #[.pointer (some ⟨b,0,none⟩)] #[]
 d5:c = true -> Rf u B 5 fd
 s0:c = false -> ¬ 10 ∈ a -> fs = .func (.func 75) #[.pointer (some ⟨b,0,none⟩)] #[]
 s6:c = false -> 10 ∈ a -> Rf u B 6 fs
 s5:c = true -> Rf u B 5 fs
 g0:g = false -> fg = .func (.func 76) #[.pointer (some ⟨b,0,none⟩)] #[]
 g5:g = true -> Rf u B 5 fg
def Nx (B b:Nat) (w1:World) (g:Bool) (a:List Int) (c:Bool) (k:Int) (er:Int) (u':World):Prop :=
 Gap b (b + 1) w1 u' /\ ((er ≠ 0 /\ ∀ l,run (k :: l) g a c = (false,[],er)) \/
  (er = 0 /\ ∃ g' v' a' c' fd fs fg,RD u' B b g' v' a' c' fd fs fg /\ a'.length <= a.length + 1 /\ ∀ l,run (k :: l) g a c = run l g' a' c'))
theorem ref_next {B b p:Nat} {w1 u:World} {g:Bool} {a:List Int} {c:Bool} {k er x:Int} (hg:Gap b (b + 1) w1 u) (h:Bk u p 48 [.int .i64 er]) (he:er ≠ 0) (hr:∀ l,run (k :: l) g a c = (false,[],er)) :
  Calls Tryz.prog 163 #[.int .i64 x,.pointer (some ⟨p,0,none⟩)] u fun e u'=>∃ er,e = .returned (.int .i64 er) /\ Nx B b w1 g a c k er u' :=
 (refused_any er x p u h).mono fun e u' ⟨h1,h2⟩=>⟨er,h1,by rw [h2];exact ⟨hg,.inl ⟨he,hr⟩⟩⟩
theorem next_any (B b:Nat) (g:Bool) (v:Value) (a:List Int) (c:Bool) (fd fs fg:Value) (k:Int) (w1 u:World) (hB:w1.heap.size = B) (h:RD u B b g v a c fd fs fg) (hg:Gap b (b + 1) w1 u) (hl:a.length < 1000000) (hk:-1 <= k) :
  Calls Tryz.prog 43 #[.pointer (some ⟨b,0,none⟩),.int .i64 k] u fun e u'=>∃ er,e = .returned (.int .i64 er) /\ Nx B b w1 g a c k er u':=by
 obtain ⟨hrb,hcg,hd0,hd5,hs0,hs6,hs5,hg0,hg5⟩:=h;have hlt:=hrb.lt;by_cases k1:k = -1
 ·subst k1
  exact (next_none b u).mono fun e u' ⟨h1,h2⟩=>⟨2,h1,by rw [h2];exact ⟨hg,.inl ⟨by omega,fun l=>rfl⟩⟩⟩
 by_cases k2:k = 11
 ·subst k2
  exact (next_out b u).mono fun e u' ⟨h1,h2⟩=>⟨0,h1,by rw [h2];exact ⟨hg,.inr ⟨rfl,g,v,a,c,fd,fs,fg,⟨hrb,hcg,hd0,hd5,hs0,hs6,hs5,hg0,hg5⟩,by omega,fun l=>run_out l g a c⟩⟩⟩
 by_cases k3:k = 12
 ·subst k3
  cases g with
  | true =>
   obtain ⟨p,rfl,hp1,hp2⟩:=hg5 rfl;exact next_signR b p u _ (hrb.bk.cell 4 rfl) (Hd (ref_next hg hp2 (by omega) (fun l=>rfl)))
  | false =>
   have hc:c = false:=by
    cases c with
    | false=>rfl
    | true=>exact absurd (hcg rfl) (by decide)
   subst hc;have hfd:=hd0 rfl;have e4:=hg0 rfl;refine next_sign b u _ (by rw [<- e4];exact hrb.bk.cell 4 rfl) (Hd ((sign_any B b false v a fd fs fg 12 w1 u hB hrb hg).mono ?_));rintro e u' ⟨x,rfl,h1,h2,h3,h4⟩;refine ⟨0,rfl,h3,.inr ⟨rfl,true,v,a,decide (0 < a.length),_,_,_,⟨h1,fun _=>rfl,fun hc=>?_,fun hc=>?_,fun hc hn=>?_,fun hc hn=>?_,fun hc=>?_,fun hc=>(by cases hc),fun _=>h2⟩,by omega,fun l=>run_sign l a false⟩⟩
   ·rw [if_neg (by simpa using hc)];exact hfd
   ·rw [if_pos (by simpa using hc)];exact h2
   ·rw [if_neg (by simpa using hc)];exact hs0 rfl hn
   ·rw [if_neg (by simpa using hc)];exact h4 _ _ (hs6 rfl hn)
   ·rw [if_pos (by simpa using hc)];exact h2
 have hrun:c = true -> ∀ l,run (k :: l) g a c = (false,[],5):=by
  intro hc l;rw [run_cons,if_neg (by omega),if_neg k2,if_neg k3,if_pos hc]
 by_cases k4:k = 10
 ·subst k4
  cases c with
  | true =>
   obtain ⟨p,rfl,hp1,hp2⟩:=hs5 rfl;exact next_sepR b p u _ (hrb.bk.cell 3 rfl) (Hd (ref_next hg hp2 (by omega) (hrun rfl)))
  | false =>
   by_cases hn:10 ∈ a
   ·obtain ⟨p,rfl,hp1,hp2⟩:=hs6 rfl hn
    exact next_sepR b p u _ (hrb.bk.cell 3 rfl) (Hd (ref_next hg hp2 (by omega) (fun l=>by rw [run_cons,if_neg (by omega),if_neg k2,if_neg k3,if_neg (by decide),if_pos ⟨rfl,hn⟩])))
   ·have e3:=hs0 rfl hn
    refine next_sep b u _ (by rw [<- e3];exact hrb.bk.cell 3 rfl) (Hd ((sep_any B b g v a fd fs fg 10 w1 u hB hrb hg hl).mono ?_));rintro e u' ⟨v',x,rfl,h1,h2,h3,h4⟩;refine ⟨0,rfl,h3,.inr ⟨rfl,g,v',a ++ [10],false,_,_,_,⟨h1,fun hc=>(by cases hc),fun _=>hd0 rfl,fun hc=>(by cases hc),fun _ hn=>absurd (by simp) hn,fun _ _=>h2,fun hc=>(by cases hc),hg0,fun hg=>h4 _ _ (hg5 hg)⟩,by simp,fun l=>run_atom (by omega) (by simp [hn]) l g⟩⟩
 ·cases c with
  | true =>
   obtain ⟨p,rfl,hp1,hp2⟩:=hd5 rfl;exact next_digR b p k k1 k2 k3 k4 u _ (hrb.bk.cell 2 rfl) (Hd (ref_next hg hp2 (by omega) (hrun rfl)))
  | false =>
   have e2:=hd0 rfl;have hm:10 ∈ a ++ [k] ↔ 10 ∈ a:=by
    rw [List.mem_append,List.mem_singleton];exact ⟨fun h=>h.resolve_right (fun e=>k4 e.symm),.inl⟩
   refine next_dig b k k1 k2 k3 k4 u _ (by rw [<- e2];exact hrb.bk.cell 2 rfl) (Hd ((take_any B b g v a fd fs fg k w1 u hB hrb hg hl).mono ?_));rintro e u' ⟨v',rfl,h1,h3,h4⟩;refine ⟨0,rfl,h3,.inr ⟨rfl,g,v',a ++ [k],false,_,_,_,⟨h1,fun hc=>(by cases hc),fun _=>e2,fun hc=>(by cases hc),fun _ hn=>hs0 rfl (fun h=>hn (hm.2 h)),fun _ hn=>h4 _ _ (hs6 rfl (hm.1 hn)),fun hc=>(by cases hc),hg0,fun hg=>h4 _ _ (hg5 hg)⟩,by simp,fun l=>?_⟩⟩;rw [run_cons,if_neg (by omega),if_neg k2,if_neg k3,if_neg (by decide),if_neg (fun h=>k4 h.1)]
theorem reader_any (w:World):Calls Tryz.prog 40 #[] w fun e w'=>∃ b,e = .returned (.pointer (some ⟨b,0,none⟩)) /\ w.heap.size <= b /\ b < w'.heap.size /\ Q w w' /\ ∀ u B,Q w' u -> b < B -> RD u B b false (.slice none 0 0) [] false (.func (.func 74) #[.pointer (some ⟨b,0,none⟩)] #[]) (.func (.func 75) #[.pointer (some ⟨b,0,none⟩)] #[]) (.func (.func 76) #[.pointer (some ⟨b,0,none⟩)] #[]):=by
 obtain ⟨b,hb⟩:∃ b,b = w.heap.size:=⟨_,rfl⟩;obtain ⟨y,hy⟩:∃ z,z = w.alloc (.cells #[.bool false,.slice none 0 0,.nilFunc,.nilFunc,.nilFunc] 87):=⟨_,rfl⟩;have hbk:Bk y b 87 [.bool false,.slice none 0 0,.nilFunc,.nilFunc,.nilFunc]:=by rw [hy,hb];exact Bk.new _ _ _
 have HQ:=Hd (show Q w y by rw [hy];exact (Q.refl w).alloc _);have HBK:=Hd hbk;have c2:=hbk.cell 2 rfl;have c3:=hbk.cell 3 rfl;have c4:=hbk.cell 4 rfl;have f2:=hbk.free 2;have f3:=hbk.free 3;have f4:=hbk.free 4;have HLE:=Hd (show w.heap.size <= b by omega);clear hbk;go_enter Tryz.func40,Tryz.ntmps40
 go_upto_region 2 with fail
 rw [<- hy,<- hb];clear hy hb;go_wp2_with fail
 go_ret
 refine ⟨b,rfl,HLE.out,?_,?_,?_⟩
 ·have:=HBK.out.lt;simp;exact this
 ·exact Q.setCell (Q.setCell (Q.setCell HQ.out HLE.out _) HLE.out _) HLE.out _
 ·intro u B hu hB
  have h1:=(((HBK.out.set 2 (.func (.func 74) #[.pointer (some ⟨b,0,none⟩)] #[])).set 3 (.func (.func 75) #[.pointer (some ⟨b,0,none⟩)] #[])).set 4 (.func (.func 76) #[.pointer (some ⟨b,0,none⟩)] #[])).q hu;exact ⟨⟨h1,Own.nil _ _,hB⟩,fun h=>h,fun _=>rfl,fun h=>(by cases h),fun _ _=>rfl,fun _ h=>(by cases h),fun h=>(by cases h),fun _=>rfl,fun h=>(by cases h)⟩
end Ps
end
section
open Go.RowKit
namespace Ps
open Um Cm Gm Im Lo Sx
theorem ofF_bd:∀ (l:List (List UInt8 × Int)) (c:Int),-1 <= (Sm.ofF l c).2 /\ (Sm.ofF l c).2 <= 9
 | [],c=>by constructor <;> (show _ <= _;simp [Sm.ofF])
 | p :: r,c=>by
  unfold Sm.ofF;split
  ·rename_i h
   constructor
   ·show -1 <= c - p.2;omega
   ·show c - p.2 <= 9;omega
  ·exact ofF_bd r c
theorem ofC_bd (c:Int):-1 <= (Sm.ofC c).2 /\ (Sm.ofC c).2 <= 9:=ofF_bd _ c
theorem plc_bd (x:ByteArray):∀ (xs:List ByteArray) (k:Nat),-1 <= Lm.plc x xs k /\ Lm.plc x xs k < ((k + xs.length:Nat):Int)
 | [],k=>by constructor <;> (simp [Lm.plc];try omega)
 | y :: r,k=>by
  unfold Lm.plc;have h:=plc_bd x r (k + 1);split
  ·constructor <;> (simp;try omega)
  ·rw [List.length_cons]
   omega
theorem sgn_lo (r:Lm.Rec) (x:ByteArray):-1 <= Lm.sgn r x:=by
 unfold Lm.sgn;split
 ·omega
 ·exact (plc_bd _ _ _).1
theorem kd_lo (r:Lm.Rec) (X:Pt.Pat) (b:ByteArray):-1 <= kd r X b:=by
 unfold kd;split
 ·omega
 ·split
  ·omega
  ·split <;> omega
theorem one_char (l:List UInt8) (h:l ≠ []):(allL l).headD 0 = (fst3 l).1 /\ ((allL l).length = 1 ↔ (fst3 l).2.1 = (l.length:Int)):=by
 have hm:=mark_n l h;unfold allL fst3;rw [if_neg h,marks_cons l h];refine ⟨rfl,?_⟩;have hz:(marks (l.drop (mrk l).2.1)).length = 0 ↔ l.length <= (mrk l).2.1:=by
  constructor
  ·intro h0
   rcases Nat.lt_or_ge (mrk l).2.1 l.length with hlt | hge
   ·have hne:l.drop (mrk l).2.1 ≠ []:=by
     intro e;have:=congrArg List.length e;simp at this;omega
    rw [marks_cons _ hne] at h0;simp at h0
   ·exact hge
  ·intro h0
   rw [List.drop_eq_nil_of_le h0];rfl
 simp only [List.map_cons,List.length_cons,List.length_map];constructor
 ·intro h1
  have:=hz.1 (by omega);show ((mrk l).2.1:Int) = _;omega
 ·intro h1
  have h2:((mrk l).2.1:Int) = (l.length:Int):=h1;have:=hz.2 (by omega);omega
theorem one_val (l:List UInt8) (h:l ≠ []) (c:Int) (hc:c ≠ 65533) (h1:(allL l).length = 1):(allL l).headD 0 = c ↔ l = enc c /\ vld c = true:=by
 obtain ⟨e1,e2⟩:=one_char l h;have hn:=e2.1 h1;rw [e1];constructor
 ·intro hv
  by_cases hf:(fst3 l).2.2 = true
  ·obtain ⟨c',hc',hl,hk⟩:=fst3_whole l l.length rfl (by have:=List.length_pos_iff.2 h;omega) hf hn
   have:c' = c:=by rw [<- hk];exact hv
   subst this;exact ⟨hl,hc'⟩
  ·exfalso
   unfold fst3 at hf hv;rw [if_neg h] at hf hv;rcases mark_cases l h with ⟨c',r,_,_,hk⟩ | ⟨_,hk⟩
   ·rw [hk] at hf;simp at hf
   ·rw [hk] at hv;exact hc hv.symm
 ·rintro ⟨rfl,hv⟩
  rw [fst3_enc c hv]
theorem enc_45:enc 45 = [45] /\ vld 45 = true:=by decide +kernel
theorem enc_46:enc 46 = [46] /\ vld 46 = true:=by decide +kernel
theorem enc_8722:enc 8722 = [226,136,146] /\ vld 8722 = true:=by decide +kernel
theorem ba_list (b:ByteArray) (l:List UInt8):b.data.toList = l ↔ b = ⟨l.toArray⟩:=by
 obtain ⟨⟨x⟩⟩:=b;simp
theorem kind_eq (r:Lm.Rec) (X:Pt.Pat) (b:ByteArray):kind r X b =
  if oneB b.data.toList = false then -1 else if ¬ Lm.sgn r b = -1 then Lm.sgn r b
  else if ¬ (Sm.ofC (fst3 b.data.toList).1).2 = -1 /\ (fst3 b.data.toList).2.1 = (b.size:Int) then (Sm.ofC (fst3 b.data.toList).1).2
  else if b = ⟨#[45]⟩ \/ b = ⟨#[226,136,146]⟩ then 12 else if b = ⟨#[46]⟩ then 10
  else if blankB (fst3 b.data.toList).1 = true \/ 0 <= Lm.plc b (Lm.clus r X) 0 then 11 else -1:=by
 have ho:oneB b.data.toList = decide ((pcs b).length = 1):=by rw [oneB_eq,pcs_length]
 unfold kind;by_cases h1:(pcs b).length = 1
 ·rw [if_pos h1,if_neg (by rw [ho];simp [h1])]
  have hne:b.data.toList ≠ []:=by
   intro e;rw [pcs_length] at h1;have:=(begL_zero _).2 e;omega
  unfold kd;by_cases h2:0 <= Lm.sgn r b
  ·rw [if_pos h2,if_pos (by omega)]
  ·have hs:=sgn_lo r b
   rw [if_neg h2,if_neg (show ¬ ¬ Lm.sgn r b = -1 by omega)];obtain ⟨e1,e2⟩:=one_char _ hne;have e45:=one_val _ hne 45 (by omega);have e46:=one_val _ hne 46 (by omega);have e87:=one_val _ hne 8722 (by omega);rw [enc_45.1,ba_list] at e45;rw [enc_46.1,ba_list] at e46;rw [enc_8722.1,ba_list] at e87;have t45:b = ⟨[45].toArray⟩ -> (allL b.data.toList).length = 1:=fun e=>by rw [e];decide +kernel
   have t46:b = ⟨[46].toArray⟩ -> (allL b.data.toList).length = 1:=fun e=>by rw [e];decide +kernel
   have t87:b = ⟨[226,136,146].toArray⟩ -> (allL b.data.toList).length = 1:=fun e=>by rw [e];decide +kernel
   have hd:=ofC_bd (fst3 b.data.toList).1;rw [size_list] at e2;unfold oth;rw [e1] at e45 e46 e87 |-;by_cases h3:(allL b.data.toList).length = 1
   ·have q45:=e45 h3
    have q46:=e46 h3;have q87:=e87 h3;simp only [enc_45.2,enc_46.2,enc_8722.2,and_true] at q45 q46 q87;rw [e2.1 h3];simp only [h3,true_and,and_true];by_cases h4:(Sm.ofC (fst3 b.data.toList).1).2 = -1
    ·have hh5:((fst3 b.data.toList).1 = 45 \/ (fst3 b.data.toList).1 = 8722) ↔ (b = ⟨#[45]⟩ \/ b = ⟨#[226,136,146]⟩):=or_congr q45 q87
     have hh6:(fst3 b.data.toList).1 = 46 ↔ b = ⟨#[46]⟩:=q46;rw [if_neg (show ¬ (0:Int) <= (Sm.ofC (fst3 b.data.toList).1).2 by omega),if_neg (show ¬ ¬ (Sm.ofC (fst3 b.data.toList).1).2 = -1 by simpa using h4)];by_cases h5:b = ⟨#[45]⟩ \/ b = ⟨#[226,136,146]⟩
     ·rw [if_pos (hh5.2 h5),if_pos (by omega),if_pos h5]
     ·rw [if_neg (fun h=>h5 (hh5.1 h)),if_neg h5]
      by_cases h6:b = ⟨#[46]⟩
      ·rw [if_pos (hh6.2 h6),if_pos (by omega),if_pos h6]
      ·rw [if_neg (fun h=>h6 (hh6.1 h)),if_neg (by omega),if_neg h6]
    ·rw [if_pos (show (0:Int) <= (Sm.ofC (fst3 b.data.toList).1).2 by omega),if_pos (show (0:Int) <= (Sm.ofC (fst3 b.data.toList).1).2 by omega),if_pos h4]
   ·have h3':¬ (fst3 b.data.toList).2.1 = (b.size:Int):=fun e=>h3 (e2.2 e)
    have n45:¬ (b = ⟨#[45]⟩ \/ b = ⟨#[226,136,146]⟩):=fun h=>h.elim (fun e=>h3 (t45 e)) (fun e=>h3 (t87 e));have n46:¬ b = ⟨#[46]⟩:=fun e=>h3 (t46 e);rw [if_neg n45,if_neg n46];simp [h3,h3']
 ·rw [if_neg h1,if_pos (by rw [ho];simp [h1])]
theorem kind_any (g:Nat) (r:Lm.Rec) (X:Pt.Pat) (a b c d cl:Value) (s:ByteArray) (w:World) (hB:LB w g r X a b c d cl) (hC:SLst w cl (Lm.clus r X)) (hl:(Lm.clus r X).length <= 1073741824) (hs:s.size <= 1073741824) :
  Calls Tryz.prog 11 #[.pointer (some ⟨g,0,none⟩),.string s] w fun e w'=>e = .returned (.int .i64 (kind r X s)) /\ Q w w':=by
 have HK:=Hd (kind_eq r X s);have HON:=Hd (fun u=>cone_any s u hs);have HSG:=Hd (fun u (q:Q w u)=>Lo.sign_any g r X a b c d cl s u (hB.q q));have HFI:=Hd (fun u=>first_any s u (by unfold maxLen;omega));have HAF:=Hd (fun u (q:Q w u)=>Lo.affix_any g r X a b c d cl _ s u (hB.q q) (hC.q q) hl);clear hB hC hl hs;generalize kind r X s = K at *;generalize oneB s.data.toList = o1 at *;generalize Lm.sgn r s = sg at *;generalize (fst3 s.data.toList).1 = ch at *;generalize (fst3 s.data.toList).2.1 = n1 at *;generalize (fst3 s.data.toList).2.2 = f1 at *;have HOF:=Hd (fun u=>Sy.of_any ch u);generalize (Sm.ofC ch).1 = nm1 at *;generalize (Sm.ofC ch).2 = dg at *;have HBL:=Hd (fun u=>blank_any ch u);generalize blankB ch = bl at *;generalize Lm.plc s (Lm.clus r X) 0 = pl at *;go_enter Tryz.func11,Tryz.ntmps11
 go_wp2_with fail
 refine (HON.out _).mono ?_;rintro e w1 ⟨rfl,hq1⟩;have HQ1:=Hd hq1;clear hq1;cases o1 with
 | false =>
  replace HK:=Hd (HK.out.trans (if_pos rfl));go_wp2_with fail
  go_ret
  rw [HK.out];exact ⟨rfl,HQ1.out⟩
 | true =>
  replace HK:=Hd (HK.out.trans (if_neg (by decide)));go_wp2_with fail
  refine (HSG.out _ HQ1.out).mono ?_;rintro e w2 ⟨rfl,hq2⟩;have HQ2:=Hd (HQ1.out.trans hq2);clear hq2 HQ1;by_cases h2:sg = -1
  ·replace HK:=Hd (HK.out.trans (if_neg (by simpa using h2)))
   subst h2;go_wp2_with fail
   refine (HFI.out _).mono ?_;rintro e w3 ⟨rfl,hq3⟩;have HQ3:=Hd (HQ2.out.trans hq3);clear hq3 HQ2;go_wp2_with fail
   refine (HOF.out _).mono ?_;rintro e w4 ⟨rfl,hq4⟩;have HQ4:=Hd (HQ3.out.trans hq4);clear hq4 HQ3;by_cases h3:¬ dg = -1 /\ n1 = (s.size:Int)
   ·obtain ⟨h4,h5⟩:=id h3
    go_wp2_with fail
    go_ret
    rw [HK.out.trans (if_pos h3)];exact ⟨rfl,HQ4.out⟩
   ·replace HK:=Hd (HK.out.trans (if_neg h3))
    have key:∀ (P:Prop),(dg = -1 -> P) -> (¬ dg = -1 -> ¬ n1 = (s.size:Int) -> P) -> P:=fun P p q=>by
     by_cases h:dg = -1
     ·exact p h
     ·exact q h (fun e=>h3 ⟨h,e⟩)
    by_cases h6:s = ⟨#[45]⟩
    ·replace HK:=Hd (HK.out.trans (if_pos (.inl h6)))
     have hb1:(s.toList == [45]) = true:=by rw [h6,show (⟨#[45]⟩:ByteArray).toList = [45] from by decide +kernel];simp
     clear h6;refine key _ (fun h4=>?_) (fun h4 h5=>?_);all_goals
      clear key h3;go_wp2_with fail
      go_ret
      rw [HK.out];exact ⟨rfl,HQ4.out⟩
    ·have hb1:(s.toList == [45]) = false:=by have h:=str_ne h6;rwa [show (⟨#[45]⟩:ByteArray).toList = [45] from by decide +kernel] at h
     by_cases h7:s = ⟨#[226,136,146]⟩
     ·replace HK:=Hd (HK.out.trans (if_pos (.inr h7)))
      have hb2:(s.toList == [226,136,146]) = true:=by rw [h7,show (⟨#[226,136,146]⟩:ByteArray).toList = [226,136,146] from by decide +kernel];simp
      clear h6 h7;refine key _ (fun h4=>?_) (fun h4 h5=>?_);all_goals
       clear key h3;go_wp2_with fail
       go_ret
       rw [HK.out];exact ⟨rfl,HQ4.out⟩
     ·have hb2:(s.toList == [226,136,146]) = false:=by have h:=str_ne h7;rwa [show (⟨#[226,136,146]⟩:ByteArray).toList = [226,136,146] from by decide +kernel] at h
      replace HK:=Hd (HK.out.trans (if_neg (fun h=>h.elim h6 h7)));clear h6 h7;by_cases h8:s = ⟨#[46]⟩
      ·replace HK:=Hd (HK.out.trans (if_pos h8))
       have hb3:(s.toList == [46]) = true:=by rw [h8,show (⟨#[46]⟩:ByteArray).toList = [46] from by decide +kernel];simp
       clear h8;refine key _ (fun h4=>?_) (fun h4 h5=>?_);all_goals
        clear key h3;go_wp2_with fail
        go_ret
        rw [HK.out];exact ⟨rfl,HQ4.out⟩
      ·have hb3:(s.toList == [46]) = false:=by have h:=str_ne h8;rwa [show (⟨#[46]⟩:ByteArray).toList = [46] from by decide +kernel] at h
       replace HK:=Hd (HK.out.trans (if_neg h8));clear h8;refine key _ (fun h4=>?_) (fun h4 h5=>?_);all_goals
        clear key h3;go_wp2_with fail
        refine (HBL.out _).mono ?_;rintro e w5 ⟨rfl,rfl⟩;cases bl with
        | true =>
         go_wp2_with fail
         go_ret
         rw [HK.out.trans (if_pos (by simp))];exact ⟨rfl,HQ4.out⟩
        | false =>
         go_wp2_with fail
         refine (HAF.out _ HQ4.out).mono ?_;rintro e w6 ⟨rfl,hq6⟩;have HQ6:=Hd (HQ4.out.trans hq6);clear hq6;by_cases h9:0 <= pl
         ·have hd9:decide (0 <= pl) = true:=by simpa using h9
          rw [hd9];go_wp2_with fail
          go_ret
          rw [HK.out.trans (if_pos (by simp;omega))];exact ⟨rfl,HQ6.out⟩
         ·have hd9:decide (0 <= pl) = false:=by simpa using h9
          rw [hd9];go_wp2_with fail
          go_ret
          rw [HK.out.trans (if_neg (by simp;omega))];exact ⟨rfl,HQ6.out⟩
  ·replace HK:=Hd (HK.out.trans (if_pos h2))
   go_wp2_with fail
   go_ret
   rw [HK.out];exact ⟨rfl,HQ2.out⟩
end Ps
end
end Go.Proofs.YteggfkbnnmpcjaaGreatDoor
