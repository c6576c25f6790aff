/- A clip as a text; whether two are the same: the program's and the document's own. (and more) -/
import Derived.Test.YteggfkbnnmpcjaaGreatDoorR21
set_option linter.all false
set_option maxRecDepth 100000
set_option maxHeartbeats 8000000
namespace Go.Proofs.YteggfkbnnmpcjaaGreatDoor
section
open Go.RowKit
namespace Ps
open Um
def dg1 (r:Int):ByteArray:=⟨#[UInt8.ofNat (48 + r.toNat)]⟩
def atB (x:Int):ByteArray:=if x = 10 then ⟨#[46]⟩ else dg1 x
def txL (g:Bool) (a:List Int):List UInt8:=(if g = true then [45] else []) ++ a.flatMap fun x=>(atB x).data.toList
def txt (g:Bool) (a:List Int):ByteArray:=⟨(txL g a).toArray⟩
theorem txL_snoc (g:Bool) (a:List Int) (k:Nat) (h:k < a.length):txL g (a.take (k + 1)) = txL g (a.take k) ++ (atB (a.getD k 0)).data.toList:=by
 unfold txL;rw [List.take_succ_eq_append_getElem h,List.flatMap_append];simp [h]
theorem atB_size (x:Int):(atB x).size = 1:=by
 unfold atB dg1;split <;> rfl
theorem txL_len (g:Bool) (a:List Int):(txL g a).length <= a.length + 1:=by
 have h:∀ l:List Int,(l.flatMap fun x=>(atB x).data.toList).length = l.length:=by
  intro l;induction l with
  | nil=>rfl
  | cons x r ih =>
   rw [List.flatMap_cons,List.length_append,ih,size_list,atB_size,List.length_cons];omega
 unfold txL;rw [List.length_append,h];split <;> simp <;> omega
def digs:ByteArray:=⟨#[48,49,50,51,52,53,54,55,56,57,97,98,99,100,101,102,103,104,105,106,107,108,109,110,111,112,113,114,115,116,117,118,119,120,121,122]⟩
theorem digs_at:∀ k:Nat,k < 10 -> digs.extract k (k + 1) = ⟨#[UInt8.ofNat (48 + k)]⟩:=by decide +kernel
theorem dg1_str (x r:Int) (h:x = 48 + r) (hr:0 <= r):strOfNums [x] = dg1 r:=by
 subst h;unfold strOfNums dg1;simp only [List.map_cons,List.map_nil];rw [show (48 + r).toNat = 48 + r.toNat from by omega]
theorem small_any (k:Nat) (hk:k < 10) (w:World):Calls Tryz.prog 164 #[.int .i64 k] w fun e w'=>e = .returned (.string (dg1 k)) /\ w' = w:=by
 have H:=Hd (show digs.extract k (k + 1) = dg1 k by rw [digs_at k hk];rfl);have h1:(k:Int) < 10:=by omega
 go_enter Tryz.func164,Tryz.ntmps164
 go_wp2_with fail
 go_ret
 exact ⟨by rw [<- H.out];first | rfl | (unfold digs;rfl),rfl⟩
theorem format_any (k:Nat) (hk:k < 10) (w:World):Calls Tryz.prog 136 #[.int .i64 k,.int .i64 10] w fun e w'=>e = .returned (.string (dg1 k)) /\ w' = w:=by
 have H:=Hd (small_any k hk w);have h1:(k:Int) < 100:=by omega
 have h2:(0:Int) <= k:=by omega
 generalize dg1 k = d at *;go_enter Tryz.func136,Tryz.ntmps136
 go_wp2_with fail
 refine H.out.mono ?_;rintro e w1 ⟨rfl,rfl⟩;go_wp2_with fail
 go_ret
 exact ⟨rfl,rfl⟩
theorem itoa1_any (k:Nat) (hk:k < 10) (w:World):Calls Tryz.prog 84 #[.int .i64 k] w fun e w'=>e = .returned (.string (dg1 k)) /\ w' = w:=by
 have H:=Hd (format_any k hk w);generalize dg1 k = d at *;go_enter Tryz.func84,Tryz.ntmps84
 go_wp2_with fail
 refine H.out.mono ?_;rintro e w1 ⟨rfl,rfl⟩;go_wp2_with fail
 go_ret
 exact ⟨rfl,rfl⟩
theorem itoa_any (n:Int) (h0:0 <= n) (h9:n <= 9) (w:World):Calls Tryz.prog 48 #[.int .i64 n] w fun e w'=>e = .returned (.string (dg1 n)) /\ w' = w:=by
 obtain ⟨k,rfl⟩:∃ k:Nat,n = k:=⟨n.toNat,by omega⟩;have H:=Hd (itoa1_any k (by omega) w);generalize dg1 k = d at *;go_enter Tryz.func48,Tryz.ntmps48
 go_wp2_with fail
 refine H.out.mono ?_;rintro e w1 ⟨rfl,rfl⟩;go_wp2_with fail
 go_ret
 exact ⟨rfl,rfl⟩
theorem dec_any (n:Int) (w:World) (h0:0 <= n) (h9:n <= 9) :
  Calls Tryz.prog 50 #[.int .i64 n] w fun e w'=>e = .returned (.string (dg1 n)) /\ Q w w':=by
 have hc1:=fun (x:Int)=>Ur.convN w [x] 1 rfl;simp only [List.map_cons,List.map_nil] at hc1;have hq:=Hd (fun x:Int=>(Q.refl w).alloc (.cells #[.int .u8 x] 5));obtain ⟨r,hr⟩:∃ r,n % 10 = r:=⟨_,rfl⟩;have hrr:r = n:=by omega
 have hr0:0 <= r:=by omega
 have hr1:r < 10:=by omega
 have HS:=Hd (fun x hx=>dg1_str x r hx hr0);have HI:=Hd (show dg1 n = dg1 r by rw [hrr]);have h12:¬ n < 0:=by omega
 have h1:n < 10:=by omega
 clear hrr;go_enter Tryz.func50,Tryz.ntmps50
 go_wp2
 go_ret
 rw [HI.out];exact ⟨retS (HS.out _ rfl),hq.out _⟩
theorem below_le {lo hi:Nat} {w w':World} (h:Below hi w w') (hl:lo <= hi):Below lo w w':=⟨h.1,h.2,h.3,h.4,fun k hk=>h.5 k (by omega)⟩
theorem text_any (g:Bool) (v:Value) (a:List Int) (w:World) (hv:Lst w v a) (ha:∀ x ∈ a,0 <= x /\ x <= 10) (hl:a.length <= 1000000) :
  Calls Tryz.prog 20 #[.agg #[.bool g,v]] w fun e w'=>e = .returned (.string (txt g a)) /\ Q w w':=by
 have HD:=Hd (fun k (h:k < a.length)=>show 0 <= a.getD k 0 /\ a.getD k 0 <= 10 from by
  have e:a.getD k 0 = a[k]:=by simp [h]
  rw [e];exact ha _ (List.getElem_mem h))
 have HT:=Hd (fun k (h:k < a.length)=>txL_snoc g a k h);have HTL:=Hd (fun k=>show (txL g (a.take k)).length <= a.length + 1 from Nat.le_trans (txL_len g _) (by have:=List.length_take_le k a;simp;omega));obtain ⟨va,vc,rfl⟩:=hv.shape;obtain ⟨n,hn⟩:∃ n,n = a.length:=⟨_,rfl⟩;rw [<- hn] at hv hl HTL HD HT |-;have HN:=Hd hn.symm;have HV:=Hd hv;obtain ⟨y,hy⟩:∃ z,z = w.alloc (.cells #[.bool g,.slice va n vc] 47):=⟨_,rfl⟩;have hqy:Q w y:=by rw [hy];exact (Q.refl w).alloc _
 have hby:Bk y w.heap.size 47 [.bool g,.slice va n vc]:=by rw [hy];exact Bk.new _ _ _
 obtain ⟨bc,hbc⟩:∃ k,k = w.heap.size:=⟨_,rfl⟩;rw [<- hbc] at hby
 obtain ⟨z,hz⟩:∃ z,z = y.alloc (.cells #[.pointer none,.slice none 0 0] 93):=⟨_,rfl⟩;have hqz:Q y z:=by rw [hz];exact (Q.refl y).alloc _
 have hI:=Bl.Is.fresh y;rw [<- hz] at hI;obtain ⟨B,hB⟩:∃ k,k = y.heap.size:=⟨_,rfl⟩;rw [<- hB] at hI;have HWB:=Hd (show w.heap.size <= B by rw [hB];exact hqy.le);have HQZ:=Hd (hqy.trans hqz);have HBZ:=Hd (hby.q hqz);have hBz:B <= z.heap.size:=by rw [hB];exact hqz.le
 have HBB:=Hd (show bc < B by rw [hB];exact hby.lt);clear hn hv hqy hby hqz;go_enter Tryz.func20,Tryz.ntmps20
 go_upto_region 1 with fail
 rw [<- hy,<- hbc];clear hy hbc;go_upto_region 2 with fail
 rw [<- hz,<- hB];clear hz hB;have c0:=HBZ.out.cell 0 rfl;have key:∀ (u:World),Bl.Is B B (Lib.byteCells (txL g (a.take 0))) u -> Below B z u -> ∀ (A:Act),True:=fun _ _ _ _=>trivial;clear key;cases g with
 | true =>
  go_wp2_with fail
  refine (Bl.byte_any B B _ 45 _ hI (by rw [Bl.cells_length];simp) hBz).mono ?_;rintro e z1 ⟨rfl,hI1,hb1⟩;have HI1:=Hd (show Bl.Is B B (Lib.byteCells (txL true (a.take 0))) z1 from hI1.byte (c:=45));have HB1:=Hd hb1;clear hI hI1 hb1 c0;have HC1:=Hd (fun u (q:Below B z u)=>show Q w u from Below.trans HQZ.out (below_le q HWB.out));have c1:=(show Bk z1 bc 47 [.bool true,.slice va n vc] from (HB1.out.block bc HBB.out).trans HBZ.out).cell 1 rfl;go_wp2_with fail
  go_loopw [12] (fun i wr=>∃ k:Nat,i = .int .i64 k /\ k <= n /\ Bl.Is B B (Lib.byteCells (txL true (a.take k))) wr /\ Below B z wr) (fun i _=>n - (intOf i).toNat)
  case atStart=>exact ⟨0,rfl,by omega,HI1.out,HB1.out⟩
  case round =>
   obtain ⟨k,rfl,hk,hI,hb⟩:=hrel;have hqs:B <= wr.heap.size:=by have:=hb.size;omega
   have HB:=Hd hb;have hlen:=HTL.out k;by_cases hlt:k < n
   ·have hce:=(HV.out.q (HC1.out _ hb)).cellOf HN.out hlt
    obtain ⟨gl,off,cap,hvv,hgl,_,_,cl0⟩:=hce;cases hvv;have HTT:=Hd (HT.out k hlt);obtain ⟨x0,x1⟩:=HD.out k hlt;generalize a.getD k 0 = x at *;by_cases hx:x = 10
    ·have HX:=Hd (show (atB x).data.toList = [46] by unfold atB;rw [if_pos hx])
     go_wp2_with fail
     refine (Bl.byte_any B B _ 46 _ hI (by rw [Bl.cells_length];omega) hqs).mono ?_;rintro e w2 ⟨rfl,hI2,hb2⟩;go_wp2_with fail
     exact ⟨⟨k + 1,by go_num,by omega,by rw [HTT.out,HX.out];exact hI2.byte (c:=46),HB.out.trans hb2⟩,by simp [intOf];omega⟩
    ·have HX:=Hd (show atB x = dg1 x by unfold atB;rw [if_neg hx])
     have HIT:=Hd (fun u=>itoa_any x x0 (by omega) u);have hsz:=atB_size x;rw [HX.out] at hsz;generalize dg1 x = dx at *;go_wp2_with fail
     refine (HIT.out _).mono ?_;rintro e w1 ⟨rfl,rfl⟩;go_wp2_with fail
     refine (Bl.write_any B B _ dx _ hI (by rw [Bl.cells_length];omega) hqs).mono ?_;rintro e w2 ⟨rfl,hI2,hb2,_⟩;go_wp2_with fail
     exact ⟨⟨k + 1,by go_num,by omega,by rw [HTT.out,HX.out];exact hI2.write,HB.out.trans hb2⟩,by simp [intOf];omega⟩
   ·have hkn:k = n:=by omega
    have hke:a.take k = a:=List.take_of_length_le (by have:=HN.out;omega);rw [hke] at hI;go_wp2_with fail
    refine (Bl.done_any B B _ _ hI hqs).mono ?_;rintro e w2 ⟨rfl,hb2⟩;go_wp2_with fail
    go_ret
    exact ⟨rfl,HC1.out _ (HB.out.trans hb2)⟩
 | false =>
  have HI1:=Hd (show Bl.Is B B (Lib.byteCells (txL false (a.take 0))) z from hI);have HB1:=Hd (show Below B z z from ⟨rfl,rfl,rfl,Nat.le_refl _,fun _ _=>rfl⟩);clear hI c0;obtain ⟨z1,hz1⟩:∃ x,x = z:=⟨_,rfl⟩;rw [<- hz1] at HI1 ;have HB1':=Hd (show Below B z z1 by rw [hz1];exact HB1.out);have c0:=HBZ.out.cell 0 rfl;rw [<- hz1] at c0 |-;clear HB1 hz1;have HB1:=HB1';clear HB1';have HC1:=Hd (fun u (q:Below B z u)=>show Q w u from Below.trans HQZ.out (below_le q HWB.out));have c1:=(show Bk z1 bc 47 [.bool false,.slice va n vc] from (HB1.out.block bc HBB.out).trans HBZ.out).cell 1 rfl;go_wp2_with fail
  go_loopw [12] (fun i wr=>∃ k:Nat,i = .int .i64 k /\ k <= n /\ Bl.Is B B (Lib.byteCells (txL false (a.take k))) wr /\ Below B z wr) (fun i _=>n - (intOf i).toNat)
  case atStart=>exact ⟨0,rfl,by omega,HI1.out,HB1.out⟩
  case round =>
   obtain ⟨k,rfl,hk,hI,hb⟩:=hrel;have hqs:B <= wr.heap.size:=by have:=hb.size;omega
   have HB:=Hd hb;have hlen:=HTL.out k;by_cases hlt:k < n
   ·have hce:=(HV.out.q (HC1.out _ hb)).cellOf HN.out hlt
    obtain ⟨gl,off,cap,hvv,hgl,_,_,cl0⟩:=hce;cases hvv;have HTT:=Hd (HT.out k hlt);obtain ⟨x0,x1⟩:=HD.out k hlt;generalize a.getD k 0 = x at *;by_cases hx:x = 10
    ·have HX:=Hd (show (atB x).data.toList = [46] by unfold atB;rw [if_pos hx])
     go_wp2_with fail
     refine (Bl.byte_any B B _ 46 _ hI (by rw [Bl.cells_length];omega) hqs).mono ?_;rintro e w2 ⟨rfl,hI2,hb2⟩;go_wp2_with fail
     exact ⟨⟨k + 1,by go_num,by omega,by rw [HTT.out,HX.out];exact hI2.byte (c:=46),HB.out.trans hb2⟩,by simp [intOf];omega⟩
    ·have HX:=Hd (show atB x = dg1 x by unfold atB;rw [if_neg hx])
     have HIT:=Hd (fun u=>itoa_any x x0 (by omega) u);have hsz:=atB_size x;rw [HX.out] at hsz;generalize dg1 x = dx at *;go_wp2_with fail
     refine (HIT.out _).mono ?_;rintro e w1 ⟨rfl,rfl⟩;go_wp2_with fail
     refine (Bl.write_any B B _ dx _ hI (by rw [Bl.cells_length];omega) hqs).mono ?_;rintro e w2 ⟨rfl,hI2,hb2,_⟩;go_wp2_with fail
     exact ⟨⟨k + 1,by go_num,by omega,by rw [HTT.out,HX.out];exact hI2.write,HB.out.trans hb2⟩,by simp [intOf];omega⟩
   ·have hkn:k = n:=by omega
    have hke:a.take k = a:=List.take_of_length_le (by have:=HN.out;omega);rw [hke] at hI;go_wp2_with fail
    refine (Bl.done_any B B _ _ hI hqs).mono ?_;rintro e w2 ⟨rfl,hb2⟩;go_wp2_with fail
    go_ret
    exact ⟨rfl,HC1.out _ (HB.out.trans hb2)⟩
theorem rtext_any (g:Bool) (v:Value) (a:List Int) (w:World) (hv:Lst w v a) (ha:∀ x ∈ a,0 <= x /\ x <= 10) (hl:a.length <= 1000000) :
  Calls Tryz.prog 21 #[.agg #[.bool g,v]] w fun e w'=>e = .returned (.string (txt g a)) /\ Q w w':=by
 have HD:=Hd (fun k (h:k < a.length)=>show 0 <= a.getD k 0 /\ a.getD k 0 <= 10 from by
  have e:a.getD k 0 = a[k]:=by simp [h]
  rw [e];exact ha _ (List.getElem_mem h))
 have HT:=Hd (fun k (h:k < a.length)=>show txt g (a.take (k + 1)) = txt g (a.take k) ++ atB (a.getD k 0) from by
  unfold txt;rw [txL_snoc g a k h];apply ba_ext;simp)
 have HTL:=Hd (fun k=>show (txt g (a.take k)).size <= a.length + 1 from by
  have h1:=txL_len g (a.take k);have h2:=List.length_take_le k a;have e:(txt g (a.take k)).size = (txL g (a.take k)).length:=by unfold txt;simp [ByteArray.size]
  have h3:(a.take k).length <= a.length:=by rw [List.length_take];omega
  omega)
 obtain ⟨va,vc,rfl⟩:=hv.shape;obtain ⟨n,hn⟩:∃ n,n = a.length:=⟨_,rfl⟩;rw [<- hn] at hv hl HTL HD HT |-;have HN:=Hd hn.symm;have HV:=Hd hv;obtain ⟨y,hy⟩:∃ z,z = w.alloc (.cells #[.bool g,.slice va n vc] 55):=⟨_,rfl⟩;have HQY:=Hd (show Q w y by rw [hy];exact (Q.refl w).alloc _);have hby:Bk y w.heap.size 55 [.bool g,.slice va n vc]:=by rw [hy];exact Bk.new _ _ _
 obtain ⟨bc,hbc⟩:∃ k,k = w.heap.size:=⟨_,rfl⟩;rw [<- hbc] at hby
 have HBY:=Hd hby
 have HZ:=Hd (show txt g (a.take 0) = (if g = true then ⟨#[45]⟩ else ⟨#[]⟩) by cases g <;> rfl)
 have HE:=Hd (show txt g (a.take n) = txt g a by rw [List.take_of_length_le (by have:=HN.out;omega)]);generalize txt g a = TT at *;generalize hTk:(fun k=>txt g (a.take k)) = T at *;have hT:∀ k,txt g (a.take k) = T k:=fun k=>by rw [<- hTk]
 simp only [hT] at HT HTL HZ HE;clear hn hv hby hTk hT;go_enter Tryz.func21,Tryz.ntmps21
 go_upto_region 1 with fail
 rw [<- hy,<- hbc];clear hy hbc;have c0:=HBY.out.cell 0 rfl;cases g with
 | true =>
  replace HZ:=Hd (show T 0 = ⟨#[45]⟩ from HZ.out);go_wp2_with fail
  go_loopw [3,4] (fun s i wr=>∃ k:Nat,i = .int .i64 k /\ k <= n /\ s = .string (T k) /\ Q y wr) (fun _ i _=>n - (intOf i).toNat)
  case atStart=>exact ⟨0,rfl,by omega,by rw [HZ.out],Q.refl _⟩
  case round =>
   obtain ⟨k,rfl,hk,rfl,hq⟩:=hrel;have hlen:=HTL.out k;have HQ:=Hd (HQY.out.trans hq);have c1:=(HBY.out.q hq).cell 1 rfl;by_cases hlt:k < n
   ·have hce:=(HV.out.q HQ.out).cellOf HN.out hlt
    obtain ⟨gl,off,cap,hvv,hgl,_,_,cl0⟩:=hce;cases hvv;have HTT:=Hd (HT.out k hlt);obtain ⟨x0,x1⟩:=HD.out k hlt;generalize a.getD k 0 = x at *;generalize T k = tk at *;by_cases hx:x = 10
    ·have HX:=Hd (show atB x = ⟨#[46]⟩ by unfold atB;rw [if_pos hx])
     have h46:(⟨#[46]⟩:ByteArray).size = 1:=rfl;go_wp2_with fail
     exact ⟨⟨k + 1,by go_num,by omega,by rw [HTT.out,HX.out],hq⟩,by simp [intOf];omega⟩
    ·have HX:=Hd (show atB x = dg1 x by unfold atB;rw [if_neg hx])
     have HIT:=Hd (fun u=>dec_any x u x0 (by omega));have hsz:=atB_size x;rw [HX.out] at hsz;have HQK:=Hd hq;generalize dg1 x = dx at *;go_wp2_with fail
     refine (HIT.out _).mono ?_;rintro e w1 ⟨rfl,hq1⟩;go_wp2_with fail
     exact ⟨⟨k + 1,by go_num,by omega,by rw [HTT.out,HX.out],HQK.out.trans hq1⟩,by simp [intOf];omega⟩
   ·have hkn:k = n:=by omega
    subst hkn;go_wp2_with fail
    go_ret
    rw [HE.out];exact ⟨rfl,HQ.out⟩
 | false =>
  replace HZ:=Hd (show T 0 = ⟨#[]⟩ from HZ.out);go_wp2_with fail
  go_loopw [3,4] (fun s i wr=>∃ k:Nat,i = .int .i64 k /\ k <= n /\ s = .string (T k) /\ Q y wr) (fun _ i _=>n - (intOf i).toNat)
  case atStart=>exact ⟨0,rfl,by omega,by rw [HZ.out],Q.refl _⟩
  case round =>
   obtain ⟨k,rfl,hk,rfl,hq⟩:=hrel;have hlen:=HTL.out k;have HQ:=Hd (HQY.out.trans hq);have c1:=(HBY.out.q hq).cell 1 rfl;by_cases hlt:k < n
   ·have hce:=(HV.out.q HQ.out).cellOf HN.out hlt
    obtain ⟨gl,off,cap,hvv,hgl,_,_,cl0⟩:=hce;cases hvv;have HTT:=Hd (HT.out k hlt);obtain ⟨x0,x1⟩:=HD.out k hlt;generalize a.getD k 0 = x at *;generalize T k = tk at *;by_cases hx:x = 10
    ·have HX:=Hd (show atB x = ⟨#[46]⟩ by unfold atB;rw [if_pos hx])
     have h46:(⟨#[46]⟩:ByteArray).size = 1:=rfl;go_wp2_with fail
     exact ⟨⟨k + 1,by go_num,by omega,by rw [HTT.out,HX.out],hq⟩,by simp [intOf];omega⟩
    ·have HX:=Hd (show atB x = dg1 x by unfold atB;rw [if_neg hx])
     have HIT:=Hd (fun u=>dec_any x u x0 (by omega));have hsz:=atB_size x;rw [HX.out] at hsz;have HQK:=Hd hq;generalize dg1 x = dx at *;go_wp2_with fail
     refine (HIT.out _).mono ?_;rintro e w1 ⟨rfl,hq1⟩;go_wp2_with fail
     exact ⟨⟨k + 1,by go_num,by omega,by rw [HTT.out,HX.out],HQK.out.trans hq1⟩,by simp [intOf];omega⟩
   ·have hkn:k = n:=by omega
    subst hkn;go_wp2_with fail
    go_ret
    rw [HE.out];exact ⟨rfl,HQ.out⟩
theorem same_any (g h:Bool) (v u:Value) (a b:List Int) (w:World) (hv:Lst w v a) (hu:Lst w u b) (l1:a.length < 1000000) (l2:b.length < 1000000) :
  Calls Tryz.prog 22 #[.agg #[.bool g,v],.agg #[.bool h,u]] w fun e w'=>e = .returned (.bool (g == h && decide (a = b))) /\ Q w w':=by
 obtain ⟨a1,c1,rfl⟩:=hv.shape;obtain ⟨b1,d1,rfl⟩:=hu.shape;have H1:=Hd (fun x (q:Q w x)=>Ts.equal_any _ _ a b x (hv.q q) (hu.q q) (by omega) (by omega));generalize a.length = n1 at *;generalize b.length = m1 at *;generalize decide (a = b) = r1 at *;clear hv hu l1 l2;have HQ:=Hd (((Q.refl w).alloc (.cells #[.bool g,.slice a1 n1 c1] 47)).alloc (.cells #[.bool h,.slice b1 m1 d1] 47));by_cases hg:g = h
 ·subst hg
  have e1:(g == g) = true:=by simp
  rw [e1,Bool.true_and];go_enter Tryz.func22,Tryz.ntmps22
  go_wp2_with fail
  refine (H1.out _ HQ.out).mono ?_;rintro e w1 ⟨rfl,hq⟩;go_wp2_with fail
  go_ret
  exact ⟨rfl,HQ.out.trans hq⟩
 ·have e1:(g == h) = false:=beq_eq_false_iff_ne.2 hg
  rw [e1,Bool.false_and];go_enter Tryz.func22,Tryz.ntmps22
  go_wp2_with fail
  go_ret
  exact ⟨rfl,HQ.out⟩
theorem rsame_any (g h:Bool) (v u:Value) (a b:List Int) (w:World) (hv:Lst w v a) (hu:Lst w u b) (l1:a.length < 1000000) (l2:b.length < 1000000) :
  Calls Tryz.prog 23 #[.agg #[.bool g,v],.agg #[.bool h,u]] w fun e w'=>e = .returned (.bool (g == h && decide (a = b))) /\ Q w w':=by
 obtain ⟨a1,c1,rfl⟩:=hv.shape;obtain ⟨b1,d1,rfl⟩:=hu.shape;have H1:=Hd (fun x (q:Q w x)=>Ur.same_any _ _ a b x (hv.q q) (hu.q q) (by omega) (by omega));generalize a.length = n1 at *;generalize b.length = m1 at *;generalize decide (a = b) = r1 at *;clear hv hu l1 l2;have HQ:=Hd (((Q.refl w).alloc (.cells #[.bool g,.slice a1 n1 c1] 55)).alloc (.cells #[.bool h,.slice b1 m1 d1] 55));have HB:=Hd (show Bk ((w.alloc (.cells #[.bool g,.slice a1 n1 c1] 55)).alloc (.cells #[.bool h,.slice b1 m1 d1] 55)) w.heap.size 55 [.bool g,.slice a1 n1 c1] from (Bk.new w 55 [.bool g,.slice a1 n1 c1]).q ((Q.refl _).alloc _));have HC:=Hd (show Bk ((w.alloc (.cells #[.bool g,.slice a1 n1 c1] 55)).alloc (.cells #[.bool h,.slice b1 m1 d1] 55)) (w.heap.size + 1) 55 [.bool h,.slice b1 m1 d1] by
  have:=Bk.new (w.alloc (.cells #[.bool g,.slice a1 n1 c1] 55)) 55 [.bool h,.slice b1 m1 d1];simpa using this)
 have HG:=Hd (show ∀ x:Bool,(g == h && x) = (x && g == h) from fun x=>Bool.and_comm _ _);go_enter Tryz.func23,Tryz.ntmps23
 go_wp2_with fail
 refine (H1.out _ HQ.out).mono ?_;rintro e w1 ⟨rfl,hq⟩;have x0:=(HB.out.q hq).cell 0 rfl;have y0:=(HC.out.q hq).cell 0 rfl;cases r1
 ·go_wp2_with fail
  go_ret
  exact ⟨by simp,HQ.out.trans hq⟩
 ·by_cases hg:g = h
  ·subst hg
   have e1:(g == g) = true:=by simp
   go_wp2_with fail
   go_ret
   exact ⟨by simp,HQ.out.trans hq⟩
  ·have e1:(g == h) = false:=beq_eq_false_iff_ne.2 hg
   go_wp2_with fail
   go_ret
   exact ⟨by simp [e1],HQ.out.trans hq⟩
end Ps
end
end Go.Proofs.YteggfkbnnmpcjaaGreatDoor
