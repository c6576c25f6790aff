/- What package digit's own functions on one list come to, by a walk through each. (and more) -/
import Derived.Test.YtnehhbobhnmbcaaR04
import Derived.Laws.BytesArg
set_option linter.all false
set_option maxRecDepth 100000
set_option maxHeartbeats 8000000
namespace Go.Proofs.Ytnehhbobhnmbcaa
section
open Go.RowKit
namespace Dw
theorem may_any (v:Value) (xs:List Int) (w:World) (hv:Lst w v xs) (hl:xs.length < 1099511627776) :
  Calls Try.prog 69 #[v] w fun e w'=>e = .returned (.bool (Dm.okB xs)) /\ w = w':=by
 obtain ⟨a,c,rfl⟩:=hv.shape;obtain ⟨n,hn⟩:∃ n,n = xs.length:=⟨_,rfl⟩;obtain ⟨r,hr⟩:∃ r,r = Dm.okB xs:=⟨_,rfl⟩;rw [<- hr];have HB:=Hd (Dm.okB_bad xs);have HO:=Hd (Dm.okB_on xs);have HE:=Hd (Dm.okB_end xs);have HR:=Hd hr;rw [<- hn] at hv hl HB HO HE |-;have HV:=Hd (fun k h=>hv.cellOf (n:=n) (k:=k) hn.symm h);clear hv hn hr;go_enter Try.func69,Try.ntmps69
 go_wp2_with fail
 go_loop [7] (fun i=>∃ k:Nat,i = .int .i64 k /\ k <= n /\ Dm.okB (xs.drop k) = r) (fun i=>n - (intOf i).toNat)
 case atStart=>exact ⟨0,rfl,by omega,by rw [HR.out];rfl⟩
 case round =>
  obtain ⟨k,rfl,hk,hc⟩:=hrel;have HC:=Hd hc;clear hc;by_cases hlt:k < n
  ·obtain ⟨g,off,cap,hvv,hg,_,_,c1⟩:=HV.out k hlt
   cases hvv;have hb:=HB.out k hlt;have ho:=HO.out k hlt;obtain ⟨y,hy⟩:∃ y,y = xs.getD k 0:=⟨_,rfl⟩;rw [<- hy] at c1 hb ho;clear hy;have HB1:=Hd hb;have HO1:=Hd ho;clear hb ho;by_cases h1:y < 0
   ·have HF:Hid (r = false):=Hd (by rw [<- HC.out];exact HB1.out (by omega))
    go_wp2_with fail
    go_ret
    rw [HF.out];exact ⟨rfl,rfl⟩
   ·by_cases h2:9 < y
    ·have HF:Hid (r = false):=Hd (by rw [<- HC.out];exact HB1.out (by omega))
     have h3:10 <= y:=h2;go_wp2_with fail
     go_ret
     rw [HF.out];exact ⟨rfl,rfl⟩
    ·have HN:=Hd ((HO1.out (by omega)).symm.trans HC.out)
     have h3:¬ 10 <= y:=by omega
     go_wp2_with fail
     exact ⟨⟨k + 1,by go_num,by omega,HN.out⟩,by simp [intOf];omega⟩
  ·have HF:Hid (r = true):=Hd (by rw [<- HC.out];exact HE.out k (by omega))
   go_wp2_with fail
   go_ret
   rw [HF.out];exact ⟨rfl,rfl⟩
end Dw
end
section
open Go.RowKit
theorem Own.full {w:World} {B g n:Nat} {zs:List Int} (h:Own w B (.slice (some ⟨g,0,none⟩) n n) zs) (hn:zs.length = n):w.heap[g]? = some (.cells (zs.map (Value.int .i64)).toArray 3 (0,0)) /\ B <= g /\ n <= maxLen:=by
 rcases h.2 with ⟨h1,_⟩ | ⟨g',cap,cur,hv,hg,hh,hnc,hcm,hcs,ht⟩
 ·cases h1
 ·cases hv
  refine ⟨?_,hg,hcm⟩;rw [hh];have e:cur = (zs.map (Value.int .i64)).toArray:=by
   apply Array.toList_inj.1;rw [List.toList_toArray,<- ht,List.take_of_length_le (by rw [Array.length_toList,hcs,hn];exact Nat.le_refl _)]
  rw [e]
theorem Own.ofFull {w:World} {B g n:Nat} {zs:List Int} (hh:w.heap[g]? = some (.cells (zs.map (Value.int .i64)).toArray 3 (0,0))) (hn:zs.length = n) (hB:B <= g) (hm:n <= maxLen):Own w B (.slice (some ⟨g,0,none⟩) n n) zs:=by
 subst hn;exact ⟨by simp,.inr ⟨g,zs.length,_,rfl,hB,hh,Nat.le_refl _,hm,by simp,List.take_of_length_le (by simp)⟩⟩
theorem sizeInt:(Try.prog.info? 3).map (·.size) = some 1:=by kernel_rfl
theorem copy_ints {w:World} {B g n:Nat} {zs xs:List Int} {u:Value} (hown:Own w B (.slice (some ⟨g,0,none⟩) n n) zs) (hn:zs.length = n) (hu:Lst w u xs) {ops:Array Oper} {rest:List Oper} {o:Oper} {a:Act} {R:Exit -> Act -> World -> Prop} (hgd:o.guard = none) (d s:Operand)
  (ho:o.op = .call { callee:=.builtin .copy,args:=#[d,s],argTypes:=#[22,22] }) (hd:a.eval d = .slice (some ⟨g,0,none⟩) n n) (hs:a.eval s = u)
  (h:∀ w' v,Own w' B (.slice (some ⟨g,0,none⟩) n n) (xs.take n ++ zs.drop (min xs.length n)) -> Below B w w' -> wpList Try.prog ops R rest (a.put o.dst v) w') :
  wpList Try.prog ops R (o :: rest) a w:=by
 obtain ⟨hh,hB,hm⟩:=hown.full hn;obtain ⟨sp,sc,rfl,hnc,hcm⟩:=hu.shape2;have hcl:((xs.take n).map (Value.int .i64)).length = min n xs.length:=by simp
 refine wpList_copy_splice hgd d s _ _ ho 3 Try.underlying22 sizeInt _ sp n n xs.length sc hd hs g 0 (zs.map (Value.int .i64)) 3 hh ((xs.take n).map (Value.int .i64)) (by rw [hcl];exact Nat.min_comm _ _) ?_ (by rw [hcl,List.length_map];omega) ?_ B w (Below.refl _ _) hB ?_
 ·intro hpos
  refine ⟨rfl,?_⟩;rw [hcl] at hpos;rcases hu with ⟨rfl,_⟩ | ⟨g2,off,cap,hv,hg,h1,h2,hc⟩
  ·simp at hpos
  ·cases hv
   refine ⟨_,rfl,fun j v hj=>?_⟩;have hjl:=(List.getElem?_eq_some_iff.1 hj).1;rw [hcl] at hjl;have hadd:(⟨g2,off,none⟩:Addr).add j = ⟨g2,off + j,none⟩:=by unfold Addr.add;split <;> simp_all
   rw [hadd,hc j (by omega)];rw [List.getElem?_map,List.getElem?_take,if_pos (by omega),List.getElem?_eq_getElem (by omega)] at hj;rw [List.getD_eq_getElem?_getD,List.getElem?_eq_getElem (by omega)];simpa using hj
 ·intro v hv
  obtain ⟨_,_,rfl⟩:=List.mem_map.1 hv;rfl
 ·intro w' hw' hb'
  have hw:=hw'.out;refine h w' _ (Own.ofFull ?_ ?_ hB hm) hb'
  ·rw [hw]
   unfold splice;rw [List.take_zero,List.nil_append,hcl,Nat.zero_add,List.map_append,List.map_drop,Nat.min_comm]
  ·rw [List.length_append,List.length_take,List.length_drop,hn];omega
abbrev BOwn (w:World) (B:Nat) (v:Value) (zs:List Int):Prop:=GOwn 5 (Value.int .u8) w B v zs
theorem infoByte:(Try.prog.info? 5).map (fun i=>(i.zero,i.size,i.bytes)) = some (some (.int .u8 0),1,1):=by kernel_rfl
theorem make_bytes {w:World} {B:Nat} {ops:Array Oper} {rest:List Oper} {o:Oper} {a:Act} {R:Exit -> Act -> World -> Prop} (hgd:o.guard = none) (l c:Operand)
  (ho:o.op = .makeSlice 104 l c) (n:Nat) (L:Int) (hl:a.eval l = .int .i64 L) (hc:a.eval c = .int .i64 L) (hL:L = (n:Int)) (hn:n < 1099511627776) (hB:B <= w.heap.size)
  (h:∀ w',BOwn w' B (.slice (some ⟨w.heap.size,0,none⟩) n n) (List.replicate n 0) -> Q w w' -> wpList Try.prog ops R rest (a.put o.dst (.slice (some ⟨w.heap.size,0,none⟩) n n)) w') :
  wpList Try.prog ops R (o :: rest) a w:=by
 obtain ⟨i0,hi,hz0,hz1,hz2⟩:=info_parts infoByte;refine wpList_make_full w hgd l c _ ho B 5 i0 (.int .u8 0) 1 Try.underlying104 hi hz0 hz1 .i64 .i64 L L n hl hc hL hL (by rw [hz2];omega) (by unfold maxLen;omega) hB ?_;intro w' hown hg;refine h w' ?_ ((Q.refl w).grown hg (fun k hk=>by cases hk));unfold BOwn GOwn;rw [List.length_replicate,List.map_replicate];have e:(madeCells (Value.cells (.int .u8 0)) (n * 1)).toList = List.replicate n (Value.int .u8 0):=by
  rw [Nat.mul_one];exact toList_madeCells_one _ _
 rw [e] at hown;exact hown
theorem conv_own {w:World} {B g n cap:Nat} {zs:List Int} (h:BOwn w B (.slice (some ⟨g,0,none⟩) n cap) zs) (hn:zs.length = n) :
  (convert 104 9 (.slice (some ⟨g,0,none⟩) n cap)).run Try.prog w = .ok (.string (strOfNums zs)) w:=by
 refine run_convert_bytes_arg _ 104 5 Try.underlying104 Try.underlying5 g 0 n cap zs hn ?_ 9 Try.underlying9;intro i hi;rw [Nat.zero_add];refine GOwn.cellAt h hn ?_;rw [List.getD_eq_getElem?_getD,List.getElem?_eq_getElem (by omega)];rfl
end
section
open Go.RowKit Um
namespace Ur
def few (s:ByteArray) (n:Nat):ByteArray:=if n < s.size then s.extract 0 n else s
theorem few_size (s:ByteArray) (n:Nat):(few s n).size <= n:=by
 unfold few;split
 ·simp;omega
 ·omega
theorem convN (w:World) (xs:List Int) (n:Nat) (hn:xs.length = n) :
  (convert 104 9 (.slice (some ⟨w.heap.size,0,none⟩) n n)).run Try.prog (w.alloc (.cells (xs.map (Value.int .u8)).toArray 5)) = .ok (.string (strOfNums xs)) (w.alloc (.cells (xs.map (Value.int .u8)).toArray 5)):=by
 refine run_convert_bytes_arg _ 104 5 Try.underlying104 Try.underlying5 w.heap.size 0 n n xs hn ?_ 9 Try.underlying9;intro i hi;rw [World.cell?_alloc_at _ _ _ _ rfl,Nat.zero_add];simp only [List.getElem?_toArray,List.getElem?_map,List.getD_eq_getElem?_getD];rw [List.getElem?_eq_getElem (by omega)];rfl
theorem strOfNums_enc {xs:List Int} {c:Int} (hv:vld c = true) (h:xs.map (fun n=>UInt8.ofNat n.toNat) = enc c):strOfNums xs = encB c:=by
 apply ba_ext;rw [strOfNums_data,encB_list c hv,h]
theorem ofNat_congr {a b:Nat} (h:a = b):UInt8.ofNat a = UInt8.ofNat b:=by rw [h]
theorem u8b (a:UInt8):0 <= (a.toNat:Int) /\ (a.toNat:Int) <= 255:=by have:=a.toNat_lt;omega
theorem extract_take (s:ByteArray) (k:Nat):(s.extract 0 k).data.toList = s.data.toList.take k:=by
 rw [ByteArray.data_extract,Array.toList_extract,List.extract_eq_take_drop];simp
theorem toList_eq (s:ByteArray):s.toList = s.data.toList:=ByteArray.toList_eq s
theorem extract_list (s:ByteArray) (pos:Nat):(s.extract pos s.size).data.toList = s.data.toList.drop pos:=by
 rw [ByteArray.data_extract,Array.toList_extract];have:s.size = s.data.toList.length:=(size_list s).symm;rw [List.extract_eq_take_drop,this,List.take_of_length_le (by simp)]
theorem Lst.cellAt {w:World} {g off cap:Nat} {zs:List Int} {k:Nat} (h:∀ i,i < zs.length -> w.cell? ⟨g,off + i,none⟩ = some (.int .i64 (zs.getD i 0))) (hk:k < zs.length):w.cell? ⟨g,off + k,none⟩ = some (.int .i64 (zs.getD k 0)):=h k hk
theorem same_any (va vb:Value) (xs ys:List Int) (w:World) (ha:Lst w va xs) (hb:Lst w vb ys) (hx:xs.length < 1099511627776) (hy:ys.length < 1099511627776) :
  Calls Try.prog 55 #[va,vb] w fun e w'=>e = .returned (.bool (decide (xs = ys))) /\ Q w w':=by
 by_cases hl:xs.length = ys.length
 ·by_cases h0:xs.length = 0
  ·have hx0:xs = []:=List.eq_nil_of_length_eq_zero h0
   have hy0:ys = []:=List.eq_nil_of_length_eq_zero (by omega);subst hx0;subst hy0;obtain ⟨a,c,rfl⟩:=ha.shape;obtain ⟨b,d,rfl⟩:=hb.shape;clear ha hb hl h0 hx hy;go_enter Try.func55,Try.ntmps55
   go_wp2
   refine wp_loop_rounds 1 ?_;rw [rounds_succ];go_wp2
   go_ret
   exact ⟨rfl,Q.refl _⟩
  ·rcases ha with ⟨rfl,_⟩ | ⟨g,off,cap,rfl,hg,_,_,hca⟩
   ·exact absurd rfl h0
   rcases hb with ⟨rfl,_⟩ | ⟨g2,off2,cap2,rfl,hg2,_,_,hcb⟩
   ·exact absurd hl h0
   have HL:=Hd hl;have hle:((xs.length:Int) == (ys.length:Int)) = true:=by rw [hl];simp
   have hne:((xs.length:Int) != (ys.length:Int)) = false:=by rw [hl];simp
   clear hl h0;go_enter Try.func55,Try.ntmps55
   go_wp2
   go_loopw [5] (fun i wr=>∃ k:Nat,i = .int .i64 k /\ k <= xs.length /\ Q w wr /\ xs.take k = ys.take k) (fun i _=>xs.length - (intOf i).toNat)
   case atStart=>exact ⟨0,rfl,by omega,Q.refl _,by simp⟩
   case round =>
    obtain ⟨k,rfl,hk,hq,he⟩:=hrel;have HE:=Hd he;clear he;by_cases hlt:k < xs.length
    ·have c1:wr.cell? ⟨g,off + k,none⟩ = some (.int .i64 (xs.getD k 0)):=(World.cell?_of_block (w:=w) (hq.block hg)).trans (hca k hlt)
     have c2:wr.cell? ⟨g2,off2 + k,none⟩ = some (.int .i64 (ys.getD k 0)):=(World.cell?_of_block (w:=w) (hq.block hg2)).trans (hcb k (by rw [<- HL.out];exact hlt));have hky:(k:Int) < (ys.length:Int):=by rw [<- HL.out];omega
     have hkx:(k:Int) < (xs.length:Int):=by omega
     generalize hgx:xs.getD k 0 = p at c1;generalize hgy:ys.getD k 0 = q at c2;have HX:=Hd hgx;have HY:=Hd hgy;clear hgx hgy;have hsx:xs.take (k + 1) = xs.take k ++ [p]:=by
      rw [List.take_succ_eq_append_getElem hlt,<- HX.out,List.getD_eq_getElem?_getD,List.getElem?_eq_getElem hlt];rfl
     have hly:k < ys.length:=by rw [<- HL.out];exact hlt
     have hsy:ys.take (k + 1) = ys.take k ++ [q]:=by
      rw [List.take_succ_eq_append_getElem hly,<- HY.out,List.getD_eq_getElem?_getD,List.getElem?_eq_getElem hly];rfl
     have HSX:=Hd hsx;have HSY:=Hd hsy;clear hsx hsy;by_cases hpq:p = q
     ·have ht:(p != q) = false:=by rw [hpq];simp
      have HP:=Hd hpq;clear hpq;go_wp2_with fail
      go_quiet (fail)
      go_wp2_with fail
      exact ⟨⟨k + 1,by go_num,by omega,hq.drewN _,by rw [HSX.out,HSY.out,HE.out,HP.out]⟩,by simp [intOf];omega⟩
     ·have ht:(p != q) = true:=by rw [bne_iff_ne];exact hpq
      have HF:Hid (decide (xs = ys) = false):=Hd (decide_eq_false (fun h=>hpq (by
       have h1:=HX.out;have h2:=HY.out;rw [<- h1,<- h2,h])))
      clear hpq;go_wp2_with fail
      go_quiet (fail)
      go_wp2_with fail
      go_ret
      rw [HF.out];exact ⟨rfl,hq.drewN _⟩
    ·have HF:Hid (decide (xs = ys) = true):=Hd (decide_eq_true (by
      have h1:=HE.out;have h2:=HL.out;rw [List.take_of_length_le (by omega),List.take_of_length_le (by omega)] at h1;exact h1))
     go_wp2_with fail
     go_ret
     rw [HF.out];exact ⟨rfl,hq⟩
 ·have hne:((xs.length:Int) == (ys.length:Int)) = false:=by rw [beq_eq_false_iff_ne];omega
  have hne2:((xs.length:Int) != (ys.length:Int)) = true:=by rw [bne_iff_ne];omega
  have HF:Hid (decide (xs = ys) = false):=Hd (decide_eq_false (fun h=>hl (by rw [h])));obtain ⟨a,c,rfl⟩:=ha.shape;obtain ⟨b,d,rfl⟩:=hb.shape;clear ha hb hl;go_enter Try.func55,Try.ntmps55
  go_wp2
  go_ret
  rw [HF.out];exact ⟨rfl,Q.refl _⟩
end Ur
end
end Go.Proofs.Ytnehhbobhnmbcaa
