/- What the document's own answers on characters and their bytes come to, by a walk through each. (and more) -/
import Derived.Test.YteggfkbnnmpcjaaGreatDoorR02
import Derived.Laws.BytesArg
set_option linter.all false
set_option maxRecDepth 100000
set_option maxHeartbeats 8000000
namespace Go.Proofs.YteggfkbnnmpcjaaGreatDoor
section
open Go.RowKit Um
namespace Ur
def few (s:ByteArray) (n:Nat):ByteArray:=if n < s.size then s.extract 0 n else s
theorem few_size (s:ByteArray) (n:Nat):(few s n).size <= n:=by
 unfold few;split
 ·simp;omega
 ·omega
theorem few_any (s:ByteArray) (n:Nat) (w:World) (hs:s.size <= maxLen) (hn:n <= 1000000) :
  Calls Tryz.prog 9 #[.string s,.int .i64 n] w fun e w'=>e = .returned (.string (few s n)) /\ w = w':=by
 unfold maxLen at hs;by_cases h:n < s.size
 ·have HA:Hid (few s n = s.extract 0 n):=Hd (by unfold few;rw [if_pos h])
  go_enter Tryz.func9,Tryz.ntmps9
  go_wp2
  go_ret
  rw [HA.out];exact ⟨rfl,rfl⟩
 ·have HA:Hid (few s n = s):=Hd (by unfold few;rw [if_neg h])
  go_enter Tryz.func9,Tryz.ntmps9
  go_wp2
  go_ret
  rw [HA.out];exact ⟨rfl,rfl⟩
theorem convN (w:World) (xs:List Int) (n:Nat) (hn:xs.length = n) :
  (convert 62 9 (.slice (some ⟨w.heap.size,0,none⟩) n n)).run Tryz.prog (w.alloc (.cells (xs.map (Value.int .u8)).toArray 5)) = .ok (.string (strOfNums xs)) (w.alloc (.cells (xs.map (Value.int .u8)).toArray 5)):=by
 refine run_convert_bytes_arg _ 62 5 Tryz.underlying62 Tryz.underlying5 w.heap.size 0 n n xs hn ?_ 9 Tryz.underlying9;intro i hi;rw [World.cell?_alloc_at _ _ _ _ rfl,Nat.zero_add];simp only [List.getElem?_toArray,List.getElem?_map,List.getD_eq_getElem?_getD];rw [List.getElem?_eq_getElem (by omega)];rfl
theorem strOfNums_enc {xs:List Int} {c:Int} (hv:vld c = true) (h:xs.map (fun n=>UInt8.ofNat n.toNat) = enc c):strOfNums xs = encB c:=by
 apply ba_ext;rw [strOfNums_data,encB_list c hv,h]
theorem ofNat_congr {a b:Nat} (h:a = b):UInt8.ofNat a = UInt8.ofNat b:=by rw [h]
theorem encode_any (c:Int) (w:World) :
  Calls Tryz.prog 126 #[.int .i64 c] w fun e w'=>e = .returned (.string (encB c)) /\ Q w w':=by
 by_cases hv:vld c = true
 ·have hb:=(vld_iff c).1 hv
  have hm:=fun w=>may_any c w;rw [hv] at hm;have HM:=Hd hm;have HV:=Hd hv;clear hm hv;have hc1:=fun (x:Int)=>convN w [x] 1 rfl;have hc2:=fun (x y:Int)=>convN w [x,y] 2 rfl;have hc3:=fun (x y z:Int)=>convN w [x,y,z] 3 rfl;have hc4:=fun (x y z u:Int)=>convN w [x,y,z,u] 4 rfl;simp only [List.map_cons,List.map_nil] at hc1 hc2 hc3 hc4;by_cases h1:c < 128
  ·have HE:=Hd (enc1 c hb.1 h1)
   go_enter Tryz.func126,Tryz.ntmps126
   go_wp2_with (go_at_call 161;refine (HM.out _).mono ?_;rintro e w' ⟨rfl,rfl⟩)
   go_ret
   refine ⟨ret_str (strOfNums_enc HV.out ?_),(Q.refl _).alloc _⟩;rw [HE.out];rfl
  ·by_cases h2:c < 2048
   ·have HE:=Hd (enc2 c (by omega) h2)
    go_enter Tryz.func126,Tryz.ntmps126
    go_wp2_with (go_at_call 161;refine (HM.out _).mono ?_;rintro e w' ⟨rfl,rfl⟩)
    go_ret
    refine ⟨ret_str (strOfNums_enc HV.out ?_),(Q.refl _).alloc _⟩;rw [HE.out];simp only [List.map_cons,List.map_nil,List.cons.injEq,and_true];exact ⟨ofNat_congr (by omega),ofNat_congr (by omega)⟩
   ·by_cases h3:c < 65536
    ·have HE:=Hd (enc3 c (by omega) h3 HV.out)
     go_enter Tryz.func126,Tryz.ntmps126
     go_wp2_with (go_at_call 161;refine (HM.out _).mono ?_;rintro e w' ⟨rfl,rfl⟩)
     go_ret
     refine ⟨ret_str (strOfNums_enc HV.out ?_),(Q.refl _).alloc _⟩;rw [HE.out];simp only [List.map_cons,List.map_nil,List.cons.injEq,and_true];exact ⟨ofNat_congr (by omega),ofNat_congr (by omega),ofNat_congr (by omega)⟩
    ·have HE:=Hd (enc4 c (by omega) HV.out)
     go_enter Tryz.func126,Tryz.ntmps126
     go_wp2_with (go_at_call 161;refine (HM.out _).mono ?_;rintro e w' ⟨rfl,rfl⟩)
     go_ret
     refine ⟨ret_str (strOfNums_enc HV.out ?_),(Q.refl _).alloc _⟩;rw [HE.out];simp only [List.map_cons,List.map_nil,List.cons.injEq,and_true];exact ⟨ofNat_congr (by omega),ofNat_congr (by omega),ofNat_congr (by omega),ofNat_congr (by omega)⟩
 ·have hv:vld c = false:=by simpa using hv
  have HE:Hid (encB c = ⟨#[]⟩):=by unfold encB;exact if_neg (by simp [hv])
  have hm:=fun w=>may_any c w;rw [hv] at hm;have HM:=Hd hm;clear hm hv;go_enter Tryz.func126,Tryz.ntmps126
  go_wp2_with (go_at_call 161;refine (HM.out _).mono ?_;rintro e w' ⟨rfl,rfl⟩)
  go_ret
  rw [HE.out];exact ⟨rfl,Q.refl _⟩
theorem u8b (a:UInt8):0 <= (a.toNat:Int) /\ (a.toNat:Int) <= 255:=by have:=a.toNat_lt;omega
theorem value1 (a:UInt8) (w:World) :
  Calls Tryz.prog 128 #[.string ⟨#[a]⟩] w fun e w'=>e = .returned (.int .i64 ((a.toNat:Int))) /\ w = w':=by
 have h0:0 <= (((⟨#[a]⟩:ByteArray)[0]'(by show 0 < 1;omega)).toNat:Int) /\ (((⟨#[a]⟩:ByteArray)[0]'(by show 0 < 1;omega)).toNat:Int) <= 255:=u8b a;go_enter Tryz.func128,Tryz.ntmps128
 go_wp2
 refine wp_loop_rounds 1 ?_;rw [rounds_succ];go_wp2
 go_ret
 exact ⟨rfl,rfl⟩
theorem value2 (a b:UInt8) (w:World) :
  Calls Tryz.prog 128 #[.string ⟨#[a,b]⟩] w fun e w'=>e = .returned (.int .i64 (((a.toNat:Int) - 192) * 64 + (b.toNat:Int) - 128)) /\ w = w':=by
 have h0:0 <= (((⟨#[a,b]⟩:ByteArray)[0]'(by show 0 < 2;omega)).toNat:Int) /\ (((⟨#[a,b]⟩:ByteArray)[0]'(by show 0 < 2;omega)).toNat:Int) <= 255:=u8b a;have h1:0 <= (((⟨#[a,b]⟩:ByteArray)[1]'(by show 1 < 2;omega)).toNat:Int) /\ (((⟨#[a,b]⟩:ByteArray)[1]'(by show 1 < 2;omega)).toNat:Int) <= 255:=u8b b;go_enter Tryz.func128,Tryz.ntmps128
 go_wp2
 refine wp_loop_rounds 2 ?_;rw [rounds_succ];go_wp2
 rw [rounds_succ];go_wp2
 go_ret
 exact ⟨rfl,rfl⟩
theorem value3 (a b c:UInt8) (w:World) :
  Calls Tryz.prog 128 #[.string ⟨#[a,b,c]⟩] w fun e w'=>e = .returned (.int .i64 ((((a.toNat:Int) - 224) * 64 + (b.toNat:Int) - 128) * 64 + (c.toNat:Int) - 128)) /\ w = w':=by
 have h0:0 <= (((⟨#[a,b,c]⟩:ByteArray)[0]'(by show 0 < 3;omega)).toNat:Int) /\ (((⟨#[a,b,c]⟩:ByteArray)[0]'(by show 0 < 3;omega)).toNat:Int) <= 255:=u8b a;have h1:0 <= (((⟨#[a,b,c]⟩:ByteArray)[1]'(by show 1 < 3;omega)).toNat:Int) /\ (((⟨#[a,b,c]⟩:ByteArray)[1]'(by show 1 < 3;omega)).toNat:Int) <= 255:=u8b b;have h2:0 <= (((⟨#[a,b,c]⟩:ByteArray)[2]'(by show 2 < 3;omega)).toNat:Int) /\ (((⟨#[a,b,c]⟩:ByteArray)[2]'(by show 2 < 3;omega)).toNat:Int) <= 255:=u8b c;go_enter Tryz.func128,Tryz.ntmps128
 go_wp2
 refine wp_loop_rounds 3 ?_;rw [rounds_succ];go_wp2
 rw [rounds_succ];go_wp2
 rw [rounds_succ];go_wp2
 go_ret
 exact ⟨rfl,rfl⟩
theorem value4 (a b c d:UInt8) (w:World) :
  Calls Tryz.prog 128 #[.string ⟨#[a,b,c,d]⟩] w fun e w'=>e = .returned (.int .i64 (((((a.toNat:Int) - 240) * 64 + (b.toNat:Int) - 128) * 64 + (c.toNat:Int) - 128) * 64 + (d.toNat:Int) - 128)) /\ w = w':=by
 have h0:0 <= (((⟨#[a,b,c,d]⟩:ByteArray)[0]'(by show 0 < 4;omega)).toNat:Int) /\ (((⟨#[a,b,c,d]⟩:ByteArray)[0]'(by show 0 < 4;omega)).toNat:Int) <= 255:=u8b a;have h1:0 <= (((⟨#[a,b,c,d]⟩:ByteArray)[1]'(by show 1 < 4;omega)).toNat:Int) /\ (((⟨#[a,b,c,d]⟩:ByteArray)[1]'(by show 1 < 4;omega)).toNat:Int) <= 255:=u8b b;have h2:0 <= (((⟨#[a,b,c,d]⟩:ByteArray)[2]'(by show 2 < 4;omega)).toNat:Int) /\ (((⟨#[a,b,c,d]⟩:ByteArray)[2]'(by show 2 < 4;omega)).toNat:Int) <= 255:=u8b c;have h3:0 <= (((⟨#[a,b,c,d]⟩:ByteArray)[3]'(by show 3 < 4;omega)).toNat:Int) /\ (((⟨#[a,b,c,d]⟩:ByteArray)[3]'(by show 3 < 4;omega)).toNat:Int) <= 255:=u8b d;go_enter Tryz.func128,Tryz.ntmps128
 go_wp2
 refine wp_loop_rounds 4 ?_;rw [rounds_succ];go_wp2
 rw [rounds_succ];go_wp2
 rw [rounds_succ];go_wp2
 rw [rounds_succ];go_wp2
 go_ret
 exact ⟨rfl,rfl⟩
theorem value_any (s:ByteArray) (w:World) (h1:1 <= s.size) (h4:s.size <= 4) :
  Calls Tryz.prog 128 #[.string s] w fun e w'=>e = .returned (.int .i64 (val s.data.toList)) /\ w = w':=by
 obtain ⟨⟨l⟩⟩:=s;match l,h1,h4 with
 | [a],_,_=>exact value1 a w
 | [a,b],_,_=>exact value2 a b w
 | [a,b,c],_,_=>exact value3 a b c w
 | [a,b,c,d],_,_=>exact value4 a b c d w
 | [],h1,_=>exact absurd h1 (by show ¬ 1 <= 0;omega)
 | a :: b :: c :: d :: e :: r,_,h4=>exact absurd h4 (by show ¬ r.length + 5 <= 4;omega)
theorem extract_take (s:ByteArray) (k:Nat):(s.extract 0 k).data.toList = s.data.toList.take k:=by
 rw [ByteArray.data_extract,Array.toList_extract,List.extract_eq_take_drop];simp
theorem toList_eq (s:ByteArray):s.toList = s.data.toList:=ByteArray.toList_eq s
theorem first_any (s:ByteArray) (w:World) (hm:s.size <= maxLen) :
  Calls Tryz.prog 69 #[.string s] w fun e w'=>e = .returned (.tuple #[.int .i64 (fst3 s.data.toList).1,.int .i64 (fst3 s.data.toList).2.1,.bool (fst3 s.data.toList).2.2]) /\ Q w w':=by
 unfold maxLen at hm;have hsl:=size_list s;by_cases hs:s.size = 0
 ·have hl:s.data.toList = []:=by apply List.eq_nil_of_length_eq_zero;omega
  have HF:Hid (fst3 s.data.toList = (0,0,false)):=by rw [hl];rfl
  have h1:s.toList.isEmpty = true:=by rw [toList_eq,hl];rfl
  clear hl hs hsl;go_enter Tryz.func69,Tryz.ntmps69
  go_wp2_with fail
  go_ret3
  rw [HF.out];exact ⟨rfl,Q.refl _⟩
 ·have hl:s.data.toList ≠ []:=by intro h;apply hs;have:=congrArg List.length h;simpa using this
  have h1:s.toList.isEmpty = false:=by rw [toList_eq];simpa using hl
  have HL:=Hd hsl;clear hsl;go_enter Tryz.func69,Tryz.ntmps69
  go_wp2_with fail
  go_loopw [5] (fun n wr=>∃ k:Nat,n = .int .i64 k /\ 1 <= k /\ k <= 5 /\ k <= s.size + 1 /\ Q w wr /\ noFront s.data.toList k) (fun n _=>5 - (intOf n).toNat)
  case atStart=>exact ⟨1,rfl,by omega,by omega,by omega,Q.refl _,noFront_start _⟩
  case round =>
   obtain ⟨k,rfl,hk1,hk5,hks,hq,hno⟩:=hrel;by_cases h4:k <= 4
   ·by_cases h5:k <= s.size
    ·have hV:=Hd (fun w=>value_any (s.extract 0 k) w (by rw [ByteArray.size_extract];omega) (by rw [ByteArray.size_extract];omega))
     have hst:=Hd (noFront_step _ k hno);have hfo:=Hd (front_found s.data.toList k hk1 (by rw [HL.out];exact h5));go_wp2_with fail
     refine (hV.out _).mono ?_;rintro e w1 ⟨rfl,rfl⟩;rw [extract_take];go_wp2_with fail
     go_region_with (go_at_call 126;refine (encode_any _ _).mono ?_;rintro e w1 ⟨rfl,hq1⟩)
     all_goals go_wp2_with fail
     ·have hb:((encB (val (List.take k s.data.toList))).toList == (s.extract 0 k).toList) = true:=by assumption
      have hb:=beq_iff_eq.1 hb;rw [toList_eq,toList_eq,extract_take] at hb;have hf:=hfo.out hb;go_ret3
      rw [hf];exact ⟨rfl,hq.drew.trans hq1⟩
     ·have hb:((encB (val (List.take k s.data.toList))).toList == (s.extract 0 k).toList) = false:=by assumption
      have hb:=beq_eq_false_iff_ne.1 hb;rw [toList_eq,toList_eq,extract_take] at hb;exact ⟨⟨k + 1,by go_num,by omega,by omega,by omega,hq.drew.trans hq1,hst.out hb⟩,by simp [intOf];omega⟩
    ·have HF:Hid (fst3 s.data.toList = (65533,1,false)):=Hd (noFront_end _ k hl hno (.inr (by rw [HL.out];omega)))
     go_wp2_with fail
     go_ret3
     rw [HF.out];exact ⟨rfl,hq⟩
   ·have HF:Hid (fst3 s.data.toList = (65533,1,false)):=Hd (noFront_end _ k hl hno (.inl (by omega)))
    go_wp2_with fail
    go_ret3
    rw [HF.out];exact ⟨rfl,hq⟩
theorem extract_list (s:ByteArray) (pos:Nat):(s.extract pos s.size).data.toList = s.data.toList.drop pos:=by
 rw [ByteArray.data_extract,Array.toList_extract];have:s.size = s.data.toList.length:=(size_list s).symm;rw [List.extract_eq_take_drop,this,List.take_of_length_le (by simp)]
theorem all_any (s:ByteArray) (w:World) (hm:s.size <= 1073741824) :
  Calls Tryz.prog 35 #[.string s] w fun e w'=>∃ v u,e = .returned (.tuple #[v,u,.bool (okL s.data.toList)]) /\ Own w' w.heap.size v (allL s.data.toList) /\ Own w' w.heap.size u (startsL s.data.toList) /\ Apart v u /\ Q w w':=by
 have hml:=marks_length s.data.toList;rw [size_list] at hml;have HML:=Hd hml;clear hml;go_enter Tryz.func35,Tryz.ntmps35
 go_wp2_with fail
 go_loopw [5,6,7,8] (fun v u b at' wr=>∃ (pos:Nat) (acc sta:List Int) (ok:Bool),at' = .int .i64 pos /\ b = .bool ok /\ pos <= s.size /\ Own wr w.heap.size v acc /\ Own wr w.heap.size u sta /\ Apart v u /\ Q w wr /\
   acc ++ allL (s.data.toList.drop pos) = allL s.data.toList /\ sta ++ startsF pos (marks (s.data.toList.drop pos)) = startsL s.data.toList /\ (ok && (marks (s.data.toList.drop pos)).all (·.2.2)) = okL s.data.toList)
  (fun _ _ _ at' _=>s.size - (intOf at').toNat)
 case atStart=>exact ⟨0,[],[],true,rfl,rfl,by omega,Own.nil _ _,Own.nil _ _,Apart.nilL _,Q.refl _,by simp,by simp [startsL],by simp [okL]⟩
 case round =>
  obtain ⟨pos,acc,sta,ok,rfl,rfl,hps,hv,hu,hap,hq,ha,hs,ho⟩:=hrel;have hal:acc.length <= s.size:=by
   have h1:=congrArg List.length ha;simp only [allL,List.length_append,List.length_map] at h1;have:=HML.out;omega
  have hsl:sta.length <= s.size:=by
   have h1:=congrArg List.length hs;simp only [startsL,List.length_append,startsF_length] at h1;have:=HML.out;omega
  have hsq:=hq.le;have HA:=Hd ha;have HS:=Hd hs;have HO:=Hd ho;clear ha hs ho;by_cases hp:pos < s.size
  ·have hwd:=mark_at_n s pos hp
   have hF:∀ w,Calls Tryz.prog 69 #[.string (s.extract pos s.size)] w _:=fun w=>first_any (s.extract pos s.size) w (by rw [ByteArray.size_extract];unfold maxLen;omega);rw [extract_list] at hF;have hf3:fst3 (s.data.toList.drop pos) = ((mrk (s.data.toList.drop pos)).1,((mrk (s.data.toList.drop pos)).2.1:Int),(mrk (s.data.toList.drop pos)).2.2):=by unfold fst3;rw [if_neg (drop_ne hp)]
   rw [hf3] at hF;simp only at hF;have hm1:=marks_at s pos hp;have HM:=Hd hm1;have HF:=Hd hF;clear hF hf3 hm1;go_wp2_with fail
   refine (HF.out _).mono ?_;rintro e w1 ⟨rfl,hq1⟩;have hv1:=hv.q hq1;have hu1:=hu.q hq1;have hqw1:=hq.trans hq1;have hsq1:=hqw1.le;go_wp2_with (at_builtin;refine push_int hv1 rfl _ _ rfl _ (by rfl) (by rfl) (by omega) hsq1 ?_)
   intro v2 w2 hv2 hg2 hat2;have hu2:=hu1.other hg2 hap;have hap2:=hap.push hu1 hat2;have hqw2:=hqw1.grown hg2 (fun g h=>(hv1.lt g h).1);have hsq2:=hqw2.le;go_wp2_with (at_builtin;refine push_int hu2 rfl _ _ rfl _ (by rfl) (by rfl) (by omega) hsq2 ?_)
   intro u3 w3 hu3 hg3 hat3;have hv3:=hv2.other hg3 hap2.symm;have hap3:=(hap2.symm.push hv2 hat3).symm;have hqw3:=hqw2.grown hg3 (fun g h=>(hu2.lt g h).1);have hfin:(∃ (pos':Nat) (acc' sta':List Int) (ok':Bool),Value.int .i64 ((pos:Int) + ((mrk (s.data.toList.drop pos)).2.1:Int)) = .int .i64 pos' /\ Value.bool (ok && (mrk (s.data.toList.drop pos)).2.2) = .bool ok' /\ pos' <= s.size /\ Own w3 w.heap.size v2 acc' /\ Own w3 w.heap.size u3 sta' /\ Apart v2 u3 /\ Q w w3 /\
     acc' ++ allL (s.data.toList.drop pos') = allL s.data.toList /\ sta' ++ startsF pos' (marks (s.data.toList.drop pos')) = startsL s.data.toList /\ (ok' && (marks (s.data.toList.drop pos')).all (·.2.2)) = okL s.data.toList):=by
    refine ⟨pos + (mrk (s.data.toList.drop pos)).2.1,_,_,_,by rw [Int.natCast_add],rfl,hwd.2,hv3,hu3,hap3,hqw3,?_,?_,?_⟩
    ·rw [<- HA.out];unfold allL;conv=>rhs;rw [HM.out]
     simp
    ·rw [<- HS.out,HM.out];simp [startsF]
    ·rw [<- HO.out,HM.out,List.all_cons,Bool.and_assoc]
   have HFin:=Hd hfin;clear hfin;cases ok;all_goals
    go_wp2_with fail
    exact ⟨HFin.out,by simp [intOf];omega⟩
  ·have hpe:pos = s.size:=by omega
   subst hpe;go_wp2_with (at_builtin;refine push_int hu rfl _ _ rfl _ (by rfl) (by rfl) (by omega) hsq ?_)
   intro u3 w3 hu3 hg3 hat3;have hv3:=hv.other hg3 hap.symm;have hap3:=(hap.symm.push hv hat3).symm;have hqw3:=hq.grown hg3 (fun g h=>(hu.lt g h).1);go_wp2_with fail
   go_ret3
   have h1:=HA.out;have h2:=HS.out;have h3:=HO.out;unfold allL at h1;rw [marks_end s s.size (by omega)] at h1 h2 h3;rw [List.map_nil,List.append_nil] at h1;refine ⟨_,_,?_,?_,?_,hap3,hqw3⟩
   ·rw [<- h3,List.all_nil,Bool.and_true];rfl
   ·unfold allL;rw [<- h1];exact hv3
   ·rw [<- h2];exact hu3
theorem same_any (va vb:Value) (xs ys:List Int) (w:World) (ha:Lst w va xs) (hb:Lst w vb ys) (hx:xs.length < 1099511627776) (hy:ys.length < 1099511627776) :
  Calls Tryz.prog 18 #[va,vb] w fun e w'=>e = .returned (.bool (decide (xs = ys))) /\ Q w w':=by
 by_cases hl:xs.length = ys.length
 ·by_cases h0:xs.length = 0
  ·have hx0:xs = []:=List.eq_nil_of_length_eq_zero h0
   have hy0:ys = []:=List.eq_nil_of_length_eq_zero (by omega);subst hx0;subst hy0;obtain ⟨a,c,rfl⟩:=ha.shape;obtain ⟨b,d,rfl⟩:=hb.shape;clear ha hb hl h0 hx hy;go_enter Tryz.func18,Tryz.ntmps18
   go_wp2
   refine wp_loop_rounds 1 ?_;rw [rounds_succ];go_wp2
   go_ret
   exact ⟨rfl,Q.refl _⟩
  ·rcases ha with ⟨rfl,_⟩ | ⟨g,off,cap,rfl,hg,_,_,hca⟩
   ·exact absurd rfl h0
   rcases hb with ⟨rfl,_⟩ | ⟨g2,off2,cap2,rfl,hg2,_,_,hcb⟩
   ·exact absurd hl h0
   have HL:=Hd hl;have hle:((xs.length:Int) == (ys.length:Int)) = true:=by rw [hl];simp
   have hne:((xs.length:Int) != (ys.length:Int)) = false:=by rw [hl];simp
   clear hl h0;go_enter Tryz.func18,Tryz.ntmps18
   go_wp2
   go_loopw [5] (fun i wr=>∃ k:Nat,i = .int .i64 k /\ k <= xs.length /\ Q w wr /\ xs.take k = ys.take k) (fun i _=>xs.length - (intOf i).toNat)
   case atStart=>exact ⟨0,rfl,by omega,Q.refl _,by simp⟩
   case round =>
    obtain ⟨k,rfl,hk,hq,he⟩:=hrel;have HE:=Hd he;clear he;by_cases hlt:k < xs.length
    ·have c1:wr.cell? ⟨g,off + k,none⟩ = some (.int .i64 (xs.getD k 0)):=(World.cell?_of_block (w:=w) (hq.block hg)).trans (hca k hlt)
     have c2:wr.cell? ⟨g2,off2 + k,none⟩ = some (.int .i64 (ys.getD k 0)):=(World.cell?_of_block (w:=w) (hq.block hg2)).trans (hcb k (by rw [<- HL.out];exact hlt));have hky:(k:Int) < (ys.length:Int):=by rw [<- HL.out];omega
     have hkx:(k:Int) < (xs.length:Int):=by omega
     generalize hgx:xs.getD k 0 = p at c1;generalize hgy:ys.getD k 0 = q at c2;have HX:=Hd hgx;have HY:=Hd hgy;clear hgx hgy;have hsx:xs.take (k + 1) = xs.take k ++ [p]:=by
      rw [List.take_succ_eq_append_getElem hlt,<- HX.out,List.getD_eq_getElem?_getD,List.getElem?_eq_getElem hlt];rfl
     have hly:k < ys.length:=by rw [<- HL.out];exact hlt
     have hsy:ys.take (k + 1) = ys.take k ++ [q]:=by
      rw [List.take_succ_eq_append_getElem hly,<- HY.out,List.getD_eq_getElem?_getD,List.getElem?_eq_getElem hly];rfl
     have HSX:=Hd hsx;have HSY:=Hd hsy;clear hsx hsy;by_cases hpq:p = q
     ·have ht:(p != q) = false:=by rw [hpq];simp
      have HP:=Hd hpq;clear hpq;go_wp2_with fail
      go_quiet (fail)
      go_wp2_with fail
      exact ⟨⟨k + 1,by go_num,by omega,hq.drewN _,by rw [HSX.out,HSY.out,HE.out,HP.out]⟩,by simp [intOf];omega⟩
     ·have ht:(p != q) = true:=by rw [bne_iff_ne];exact hpq
      have HF:Hid (decide (xs = ys) = false):=Hd (decide_eq_false (fun h=>hpq (by
       have h1:=HX.out;have h2:=HY.out;rw [<- h1,<- h2,h])))
      clear hpq;go_wp2_with fail
      go_quiet (fail)
      go_wp2_with fail
      go_ret
      rw [HF.out];exact ⟨rfl,hq.drewN _⟩
    ·have HF:Hid (decide (xs = ys) = true):=Hd (decide_eq_true (by
      have h1:=HE.out;have h2:=HL.out;rw [List.take_of_length_le (by omega),List.take_of_length_le (by omega)] at h1;exact h1))
     go_wp2_with fail
     go_ret
     rw [HF.out];exact ⟨rfl,hq⟩
 ·have hne:((xs.length:Int) == (ys.length:Int)) = false:=by rw [beq_eq_false_iff_ne];omega
  have hne2:((xs.length:Int) != (ys.length:Int)) = true:=by rw [bne_iff_ne];omega
  have HF:Hid (decide (xs = ys) = false):=Hd (decide_eq_false (fun h=>hl (by rw [h])));obtain ⟨a,c,rfl⟩:=ha.shape;obtain ⟨b,d,rfl⟩:=hb.shape;clear ha hb hl;go_enter Tryz.func18,Tryz.ntmps18
  go_wp2
  go_ret
  rw [HF.out];exact ⟨rfl,Q.refl _⟩
end Ur
end
section
open Go.RowKit
namespace Dm
def gdL (xs:List Int) (m:Nat):List Int:=(xs.take m).map fun x=>Um.around x 10
theorem gdL_len (xs:List Int) (m:Nat):(gdL xs m).length = min m xs.length:=by unfold gdL;rw [List.length_map,List.length_take]
theorem gdL_ok (xs:List Int) (m:Nat):okD (gdL xs m):=by
 intro d hd;obtain ⟨x,hx,rfl⟩:=List.mem_map.1 hd;have:=Um.around_bd x 10 (by omega);omega
theorem gdL_snoc (xs:List Int) (k:Nat) (hk:k < xs.length):gdL xs (k + 1) = gdL xs k ++ [Um.around (xs.getD k 0) 10]:=by
 unfold gdL;rw [List.take_succ_eq_append_getElem hk,List.map_append,List.getD_eq_getElem?_getD,List.getElem?_eq_getElem hk];rfl
theorem gdL_min (xs:List Int) (m:Nat):gdL xs (min m xs.length) = gdL xs m:=by
 unfold gdL;rcases Nat.le_total m xs.length with h | h
 ·rw [Nat.min_eq_left h]
 ·rw [Nat.min_eq_right h,List.take_length,List.take_of_length_le h]
end Dm
namespace Dr
theorem good_any (v:Value) (xs:List Int) (m:Nat) (w:World) (hv:Lst w v xs) (hl:xs.length <= 9223372036854775807) (hm:m < 1000000) (hb:∀ n ∈ xs,-9223372036854775808 <= n /\ n <= 9223372036854775807) :
  Calls Tryz.prog 39 #[v,.int .i64 m] w fun e w'=>∃ u,e = .returned u /\ Own w' w.heap.size u (Dm.gdL xs m) /\ Q w w':=by
 obtain ⟨n,hn⟩:∃ n,n = xs.length:=⟨_,rfl⟩;obtain ⟨a,c,rfl,hnc,hcm⟩:=hv.form0 hn.symm;have HV:=Hd (fun k (hk:k < n)=>hv.cellOf (n:=n) (k:=k) hn.symm hk);have HB:=Hd (fun k (hk:k < n)=>(by rw [List.getD_eq_getElem?_getD,List.getElem?_eq_getElem (by omega)];exact hb _ (List.getElem_mem _):-9223372036854775808 <= xs.getD k 0 /\ xs.getD k 0 <= 9223372036854775807));have HS:=Hd (fun k (hk:k < n)=>Dm.gdL_snoc xs k (by omega));have HE:=Hd (fun k (h1:k = min m n)=>(by rw [h1,hn];exact Dm.gdL_min xs m:Dm.gdL xs k = Dm.gdL xs m));have HL:=Hd (fun k=>(by rw [Dm.gdL_len,<- hn]:(Dm.gdL xs k).length = min k n));have HA:=Hd (fun x w h0 h1=>Ur.around_any x 10 w h0 h1 (by omega) (by omega));rw [<- hn] at hl;unfold maxLen at hcm;clear hv hn hb;go_enter Tryz.func39,Tryz.ntmps39
 go_wp2_with fail
 go_loopw [5,6] (fun u t wr=>∃ k:Nat,t = .int .i64 k /\ k <= n /\ k <= m /\ Own wr w.heap.size u (Dm.gdL xs k) /\ Q w wr) (fun _ t _=>n - (intOf t).toNat)
 case atStart=>exact ⟨0,rfl,by omega,by omega,Own.nil _ _,Q.refl _⟩
 case round =>
  obtain ⟨k,rfl,hk,hkm,ho,hq⟩:=hrel;by_cases hlt:k < n
  ·by_cases hlm:k < m
   ·obtain ⟨g,off,cap,hvv,hg,_,_,c0⟩:=HV.out k hlt
    cases hvv;have c1:=(World.cell?_of_block (w:=w) (hq.block hg) (a:=⟨g,off + k,none⟩)).trans c0;have hbk:=HB.out k hlt;have hs:=HS.out k hlt;generalize xs.getD k 0 = x at *;have HS2:=Hd hs;have hwl:(Dm.gdL xs k).length < 1099511627776:=by rw [HL.out];omega
    have hB:=hq.le;have HAR:=Hd (HA.out x wr hbk.1 hbk.2);have HQ:=Hd hq;clear hs c0 hbk;generalize Um.around x 10 = y at *;go_wp2_with fail
    refine HAR.out.mono ?_;rintro e w1 ⟨rfl,rfl⟩;go_wp2_with (at_builtin;refine push_int ho rfl _ _ rfl _ (by rfl) (by rfl) hwl hB ?_)
    intro v2 w2 ho2 hg2 hat2;rw [<- HS2.out] at ho2;have HO2:=Hd ho2;have HQ2:=Hd (HQ.out.grown hg2 (fun g h=>(ho.lt g h).1));clear ho ho2 hg2 hat2;go_wp2_with fail
    exact ⟨⟨k + 1,by go_num,by omega,by omega,HO2.out,HQ2.out⟩,by simp [intOf];omega⟩
   ·have he:=HE.out k (by omega)
    rw [he] at ho;have HO:=Hd ho;have HQ:=Hd hq;clear he ho hq;go_wp2_with fail
    go_ret
    exact ⟨_,rfl,HO.out,HQ.out⟩
  ·have he:=HE.out k (by omega)
   rw [he] at ho;have HO:=Hd ho;have HQ:=Hd hq;clear he ho hq;go_wp2_with fail
   go_ret
   exact ⟨_,rfl,HO.out,HQ.out⟩
end Dr
end
end Go.Proofs.YteggfkbnnmpcjaaGreatDoor
