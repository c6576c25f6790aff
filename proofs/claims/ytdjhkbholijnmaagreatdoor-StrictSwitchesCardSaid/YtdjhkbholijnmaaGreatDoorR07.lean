/- What the program's small functions on patterns answer: need, meaning, special, plain, mark, keep, and what its questions of a sign answer. (and more) -/
import Derived.Test.YtdjhkbholijnmaaGreatDoorR06
import Derived.Lib.ConvBytes
import Derived.Deep.RegionLaw
set_option linter.all false
set_option maxRecDepth 100000
set_option maxHeartbeats 8000000
namespace Go.Proofs.YtdjhkbholijnmaaGreatDoor
section
open Go.RowKit
namespace Pg
open Pt Um
abbrev form:List PanicEntry:=[{ v:=.iface 40 (.int .i64 2),recovered:=false }]
abbrev range:List PanicEntry:=[{ v:=.iface 40 (.int .i64 3),recovered:=false }]
theorem need_yes (w:World):Calls Tryz.prog 146 #[.bool true] w fun e w'=>e = .returned (.tuple #[]) /\ w = w':=by
 go_enter Tryz.func146,Tryz.ntmps146
 go_wp2
 go_end0
 exact ⟨rfl,rfl⟩
theorem need_no (w:World):Calls Tryz.prog 146 #[.bool false] w fun e w'=>e = .panicked form /\ w = w':=by
 go_enter Tryz.func146,Tryz.ntmps146
 go_wp2
 exact ⟨rfl,rfl,rfl⟩
theorem meaning_any (c:Int) (w:World):Calls Tryz.prog 184 #[.int .i64 c] w fun e w'=>e = .returned (.int .i64 (kindC c)) /\ w = w':=by
 obtain ⟨K,hK⟩:∃ K,K = kindC c:=⟨_,rfl⟩;rw [<- hK];unfold kindC at hK;have HK:=Hd hK;clear hK;go_enter Tryz.func184,Tryz.ntmps184
 go_wp2
 all_goals
  have hK:=HK.out;go_ret
  first | (simp_all;done) | (simp_all;omega)
structure Nb where
 p:Int
 s:Int
 mi:Int
 xi:Int
 mf:Int
 xf:Int
deriving DecidableEq
@[reducible] def Nb.v (n:Nb):Value:=.agg #[.int .i64 n.p,.int .i64 n.s,.int .i64 n.mi,.int .i64 n.xi,.int .i64 n.mf,.int .i64 n.xf]
theorem keep_ok (p s mi xi mf xf:Int) (w:World) (h1:xi <= 64) (h2:xf <= 64):Calls Tryz.prog 148 #[.agg #[.int .i64 p,.int .i64 s,.int .i64 mi,.int .i64 xi,.int .i64 mf,.int .i64 xf]] w fun e w'=>e = .returned (.tuple #[]) /\ Q w w':=by
 have hm:max xi xf <= 64:=by omega
 generalize hx:max xi xf = x at *;have HX:=Hd hx;go_enter Tryz.func148,Tryz.ntmps148
 go_wp2
 all_goals
  go_end0
  exact ⟨rfl,(Q.refl _).alloc _⟩
theorem keep_bad (p s mi xi mf xf:Int) (w:World) (h:64 < xi \/ 64 < xf):Calls Tryz.prog 148 #[.agg #[.int .i64 p,.int .i64 s,.int .i64 mi,.int .i64 xi,.int .i64 mf,.int .i64 xf]] w fun e w'=>e = .panicked range /\ Q w w':=by
 have hm:64 < max xi xf:=by omega
 generalize hx:max xi xf = x at *;have HX:=Hd hx;clear h;go_enter Tryz.func148,Tryz.ntmps148
 go_wp2
 all_goals exact ⟨rfl,rfl,(Q.refl _).alloc _⟩
theorem notD_any (k c:Int) (w:World):Calls Tryz.prog 182 #[.agg #[.int .i64 k,.int .i64 c]] w fun e w'=>e = .returned (.bool (!isD (k,c))) /\ Q w w':=by
 have HF:Hid ((!isD (k,c)) = (k != 5)):=Hd (by simp [isD,bne]);generalize (!isD (k,c)) = r at *;go_enter Tryz.func182,Tryz.ntmps182
 go_wp2
 go_ret
 rw [HF.out];exact ⟨rfl,(Q.refl _).alloc _⟩
theorem notN_any (k c:Int) (w:World):Calls Tryz.prog 185 #[.agg #[.int .i64 k,.int .i64 c]] w fun e w'=>e = .returned (.bool (!isN (k,c))) /\ Q w w':=by
 have HF:Hid ((!isN (k,c)) = (k != 4)):=Hd (by simp [isN,bne]);generalize (!isN (k,c)) = r at *;go_enter Tryz.func185,Tryz.ntmps185
 go_wp2
 go_ret
 rw [HF.out];exact ⟨rfl,(Q.refl _).alloc _⟩
theorem isN_any (k c:Int) (w:World):Calls Tryz.prog 186 #[.agg #[.int .i64 k,.int .i64 c]] w fun e w'=>e = .returned (.bool (isN (k,c))) /\ Q w w':=by
 have HF:Hid (isN (k,c) = (k == 4)):=Hd (by simp [isN]);generalize isN (k,c) = r at *;go_enter Tryz.func186,Tryz.ntmps186
 go_wp2
 go_ret
 rw [HF.out];exact ⟨rfl,(Q.refl _).alloc _⟩
def isL (x:Int × Int):Bool:=x.1 == 0
theorem isL_any (k c:Int) (w:World):Calls Tryz.prog 202 #[.agg #[.int .i64 k,.int .i64 c]] w fun e w'=>e = .returned (.bool (isL (k,c))) /\ Q w w':=by
 have HF:Hid (isL (k,c) = (k == 0)):=Hd (by simp [isL]);generalize isL (k,c) = r at *;go_enter Tryz.func202,Tryz.ntmps202
 go_wp2
 go_ret
 rw [HF.out];exact ⟨rfl,(Q.refl _).alloc _⟩
end Pg
end
section
open Go.RowKit
namespace Lo
open Um Cm Gm
theorem Q.bytes (w:World) (e:TypeId) (s:ByteArray):Q w (Lib.bytesWorld w e s) :=
 ⟨rfl,rfl,rfl,by rw [Lib.bytesWorld_size];omega,fun k hk=>Lib.bytesWorld_at_old w e s k hk⟩
theorem named_ok (s:ByteArray) (w:World) (h1:1 <= s.size) (h16:s.size <= 16) (hl:∀ b ∈ s.data.toList,(97 <= b.toNat /\ b.toNat <= 122) \/ (65 <= b.toNat /\ b.toNat <= 90) \/ b.toNat = 45) :
  Calls Tryz.prog 90 #[.string s] w fun e w'=>e = .returned (.bool true) /\ Q w w':=by
 obtain ⟨n,hn⟩:∃ n,n = s.size:=⟨_,rfl⟩;have h1i:(0:Int) < (n:Int):=by omega
 have h16i:(n:Int) <= 16:=by omega
 have hcv:=Lib.run_convert_string_bytes (P:=Tryz.prog) w 9 57 5 s (u:=.string) Tryz.underlying9 Tryz.underlying57 Tryz.underlying5;have HC:=Hd (show ∀ k,k < n -> ∃ b:Nat,((97 <= b /\ b <= 122) \/ (65 <= b /\ b <= 90) \/ b = 45) /\ (Lib.bytesWorld w 5 s).cell? ⟨w.heap.size,k,none⟩ = some (.int .u8 (b:Int)) from fun k hk=>by
  have hm:s.data.toList.getD k 0 ∈ s.data.toList:=by
   have hks:k < s.data.toList.length:=by rw [size_list];omega
   rw [List.getD_eq_getElem?_getD,List.getElem?_eq_getElem hks];exact List.getElem_mem _
  exact ⟨_,hl _ hm,Lib.bytesWorld_cell w 5 s k (by omega)⟩)
 have HQ:=Hd (Q.bytes w 5 s);have HLT:=Hd (show w.heap.size < (Lib.bytesWorld w 5 s).heap.size by rw [Lib.bytesWorld_size];omega);generalize Lib.bytesWorld w 5 s = z at *;generalize grownCap w s.size 0 5 = cp at *;have HN:=Hd hn;rw [<- hn] at hcv;generalize w.heap.size = g at *;clear hl h1 h16 hn;go_enter Tryz.func90,Tryz.ntmps90
 go_wp2_with fail
 go_loopw [9] (fun i wr=>∃ k:Nat,i = .int .i64 k /\ k <= n /\ z = wr) (fun i _=>n - (intOf i).toNat)
 case atStart=>exact ⟨0,rfl,by omega,rfl⟩
 case round =>
  obtain ⟨k,rfl,hk,rfl⟩:=hrel;by_cases hlt:k < n
  ·have hlti:(k:Int) < (n:Int):=by omega
   obtain ⟨b,hb,c1⟩:=HC.out k hlt;rcases hb with ⟨hb1,hb2⟩ | ⟨hb1,hb2⟩ | hb
   ·have hb1i:(97:Int) <= (b:Int):=by omega
    have hb2i:(b:Int) <= 122:=by omega
    go_wp2_with fail
    exact ⟨⟨k + 1,by go_num,by omega,(by first | trivial | rfl)⟩,by simp [intOf];omega⟩
   ·have hb1i:(65:Int) <= (b:Int):=by omega
    have hb2i:(b:Int) <= 90:=by omega
    have hb3i:¬ (97:Int) <= (b:Int):=by omega
    go_wp2_with fail
    exact ⟨⟨k + 1,by go_num,by omega,(by first | trivial | rfl)⟩,by simp [intOf];omega⟩
   ·subst hb
    go_wp2_with fail
    exact ⟨⟨k + 1,by go_num,by omega,(by first | trivial | rfl)⟩,by simp [intOf];omega⟩
  ·have hnlt:¬ (k:Int) < (n:Int):=by omega
   have hz1:(0:Int) < (s.size:Int):=by have:=HN.out;omega
   have hz2:(s.size:Int) <= 16:=by have:=HN.out;omega
   clear h1i h16i hcv;go_wp2_with fail
   go_ret
   exact ⟨rfl,HQ.out⟩
end Lo
end
section
open Go.RowKit
namespace Pr
open Pt Um
def inS (c:Int) (l:List UInt8):Bool:=l.any fun b=>c == ((b.toNat:Nat):Int)
theorem inS_at {c:Int} {s:ByteArray} {k:Nat} (hk:k < s.size) (h:c = (((s[k]'hk).toNat:Nat):Int)):inS c s.data.toList = true:=by
 unfold inS;rw [List.any_eq_true];refine ⟨s[k],?_,by rw [h];simp⟩;exact List.getElem_mem (l:=s.data.toList) (n:=k) (by rw [size_list];exact hk)
theorem inS_no {c:Int} {s:ByteArray} (h:∀ k (hk:k < s.size),c ≠ (((s[k]'hk).toNat:Nat):Int)):inS c s.data.toList = false:=by
 unfold inS;rw [List.any_eq_false];intro b hb;obtain ⟨k,hk,he⟩:=List.mem_iff_getElem.1 hb;rw [size_list] at hk;have:=h k hk;intro hb;rw [beq_iff_eq] at hb;refine this ?_;rw [hb,<- he];rfl
theorem in_any (c:Int) (s:ByteArray) (w:World) (hs:s.size <= 1000000) :
  Calls Tryz.prog 200 #[.int .i64 c,.string s] w fun e w'=>e = .returned (.bool (inS c s.data.toList)) /\ w = w':=by
 have HA:=Hd (fun k hk=>@inS_at c s k hk);have HN:=Hd (@inS_no c s);generalize inS c s.data.toList = r at *;go_enter Tryz.func200,Tryz.ntmps200
 go_wp2_with fail
 go_loopw [5] (fun i wr=>∃ k:Nat,i = .int .i64 k /\ k <= s.size /\ (∀ j (hj:j < s.size),j < k -> c ≠ (((s[j]'hj).toNat:Nat):Int)) /\ w = wr) (fun i _=>s.size - (intOf i).toNat)
 case atStart=>exact ⟨0,rfl,by omega,fun j _ h=>absurd h (Nat.not_lt_zero j),rfl⟩
 case round =>
  obtain ⟨k,rfl,hk,hno,rfl⟩:=hrel;have HNO:=Hd hno;clear hno;by_cases hlt:k < s.size
  ·have hlti:(k:Int) < (s.size:Int):=by omega
   have hub:=Ur.u8b (s[k]'hlt);by_cases hc:c = (((s[k]'hlt).toNat:Nat):Int)
   ·have HF:=Hd (HA.out k hlt hc)
    have hcb:(c == (((s[k]'hlt).toNat:Nat):Int)) = true:=by rw [hc];simp
    have HC:=Hd hc;clear hc;go_wp2_with fail
    go_ret
    rw [HF.out];exact ⟨rfl,rfl⟩
   ·have hcb:(c == (((s[k]'hlt).toNat:Nat):Int)) = false:=beq_eq_false_iff_ne.2 hc
    have HC:=Hd hc;clear hc;go_wp2_with fail
    refine ⟨⟨k + 1,by go_num,by omega,fun j hj hjk=>?_,trivial⟩,by simp [intOf];omega⟩;by_cases h:j = k
    ·subst h;exact HC.out
    ·exact HNO.out j hj (by omega)
  ·have HF:=Hd (HN.out fun j hj=>HNO.out j hj (by omega))
   go_wp2_with fail
   go_ret
   rw [HF.out];exact ⟨rfl,rfl⟩
theorem in_four (c:Int):inS c [35,48,44,46] = (c == 35 || (c == 48 || (c == 44 || c == 46))):=by simp [inS]
theorem in_bad (c:Int):inS c [49,50,51,52,53,54,55,56,57,64,42,43,69] = true ↔ ((49 <= c /\ c <= 57) \/ c = 64 \/ c = 42 \/ c = 43 \/ c = 69):=by
 simp [inS];omega
theorem kind_any (c:Int) (w:World) :
  Calls Tryz.prog 178 #[.int .i64 c] w fun e w'=>e = .returned (.int .i64 (kindC c)) /\ w = w':=by
 have hi4:=fun w=>in_any c ⟨#[35,48,44,46]⟩ w (by decide);have hi6:=fun w=>in_any c ⟨#[49,50,51,52,53,54,55,56,57,64,42,43,69]⟩ w (by decide);have e4:inS c (⟨#[35,48,44,46]⟩:ByteArray).data.toList = decide (c = 35 \/ c = 48 \/ c = 44 \/ c = 46):=by
  rw [show (⟨#[35,48,44,46]⟩:ByteArray).data.toList = [35,48,44,46] from rfl,in_four,Bool.eq_iff_iff];simp
 have e6:inS c (⟨#[49,50,51,52,53,54,55,56,57,64,42,43,69]⟩:ByteArray).data.toList = decide ((49 <= c /\ c <= 57) \/ c = 64 \/ c = 42 \/ c = 43 \/ c = 69):=by
  rw [show (⟨#[49,50,51,52,53,54,55,56,57,64,42,43,69]⟩:ByteArray).data.toList = [49,50,51,52,53,54,55,56,57,64,42,43,69] from rfl,Bool.eq_iff_iff,in_bad];simp
 rw [e4] at hi4;rw [e6] at hi6;obtain ⟨K,hK⟩:∃ K,K = kindC c:=⟨_,rfl⟩;rw [<- hK];unfold kindC at hK;have main:∀ (b4 b6:Bool),decide (c = 35 \/ c = 48 \/ c = 44 \/ c = 46) = b4 -> decide ((49 <= c /\ c <= 57) \/ c = 64 \/ c = 42 \/ c = 43 \/ c = 69) = b6 ->
   Calls Tryz.prog 178 #[.int .i64 c] w fun e w'=>e = .returned (.int .i64 K) /\ w = w':=by
  intro b4 b6 h4 h6;rw [h4] at hi4;rw [h6] at hi6;have HI4:=Hd hi4;have HI6:=Hd hi6;clear hi4 hi6 e4 e6;by_cases h1:c = 164
  ·have HF:Hid (K = 1):=Hd (by rw [hK,if_pos h1])
   subst h1;clear hK h4 h6;go_enter Tryz.func178,Tryz.ntmps178
   go_wp2_with fail
   go_ret
   rw [HF.out];exact ⟨rfl,rfl⟩
  ·rw [if_neg h1] at hK
   by_cases h2:c = 37
   ·have HF:Hid (K = 2):=Hd (by rw [hK,if_pos h2])
    subst h2;clear hK h4 h6;go_enter Tryz.func178,Tryz.ntmps178
    go_wp2_with fail
    go_ret
    rw [HF.out];exact ⟨rfl,rfl⟩
   ·rw [if_neg h2] at hK
    by_cases h3:c = 45
    ·have HF:Hid (K = 3):=Hd (by rw [hK,if_pos h3])
     subst h3;clear hK h4 h6;go_enter Tryz.func178,Tryz.ntmps178
     go_wp2_with fail
     go_ret
     rw [HF.out];exact ⟨rfl,rfl⟩
    ·rw [if_neg h3] at hK
     have g1:(c == 164) = false:=beq_eq_false_iff_ne.2 h1;have g2:(c == 37) = false:=beq_eq_false_iff_ne.2 h2;have g3:(c == 45) = false:=beq_eq_false_iff_ne.2 h3;cases b4
     ·rw [if_neg (of_decide_eq_false h4)] at hK
      by_cases h5:c = 59
      ·have HF:Hid (K = 5):=Hd (by rw [hK,if_pos h5])
       subst h5;clear hK h4 h6;go_enter Tryz.func178,Tryz.ntmps178
       go_wp2_with fail
       refine (HI4.out _).mono ?_;rintro e w1 ⟨rfl,rfl⟩;go_wp2_with fail
       go_ret
       rw [HF.out];exact ⟨rfl,rfl⟩
      ·rw [if_neg h5] at hK
       have g5:(c == 59) = false:=beq_eq_false_iff_ne.2 h5;cases b6
       ·have HF:Hid (K = 0):=Hd (by rw [hK,if_neg (of_decide_eq_false h6)])
        clear hK h4 h6 h1 h2 h3 h5;go_enter Tryz.func178,Tryz.ntmps178
        go_wp2_with fail
        refine (HI4.out _).mono ?_;rintro e w1 ⟨rfl,rfl⟩;go_wp2_with fail
        refine (HI6.out _).mono ?_;rintro e w1 ⟨rfl,rfl⟩;go_wp2_with fail
        go_ret
        rw [HF.out];exact ⟨rfl,rfl⟩
       ·have HF:Hid (K = 6):=Hd (by rw [hK,if_pos (of_decide_eq_true h6)])
        clear hK h4 h6 h1 h2 h3 h5;go_enter Tryz.func178,Tryz.ntmps178
        go_wp2_with fail
        refine (HI4.out _).mono ?_;rintro e w1 ⟨rfl,rfl⟩;go_wp2_with fail
        refine (HI6.out _).mono ?_;rintro e w1 ⟨rfl,rfl⟩;go_wp2_with fail
        go_ret
        rw [HF.out];exact ⟨rfl,rfl⟩
     ·have HF:Hid (K = 4):=Hd (by rw [hK,if_pos (of_decide_eq_true h4)])
      clear hK h4 h6 h1 h2 h3;go_enter Tryz.func178,Tryz.ntmps178
      go_wp2_with fail
      refine (HI4.out _).mono ?_;rintro e w1 ⟨rfl,rfl⟩;go_wp2_with fail
      go_ret
      rw [HF.out];exact ⟨rfl,rfl⟩
 exact main _ _ rfl rfl
end Pr
end
section
open Go.RowKit
namespace Sr
open Sm Um
theorem nm_at:∀ i,i < 20 -> nz (nmL.getD i []) = zrs.getD i 0 /\ (nmL.getD i [],zrs.getD i 0) ∈ tab:=by decide +kernel
theorem names_any (w:World) :
  Calls Tryz.prog 135 #[] w fun e w'=>∃ g,e = .returned (.slice (some ⟨g,0,none⟩) 20 20) /\ g < w'.heap.size /\ (∀ k,k < 20 -> w'.cell? ⟨g,k,none⟩ = some (.string ⟨(nmL.getD k []).toArray⟩)) /\ SLst w' (.slice (some ⟨g,0,none⟩) 20 20) nmB /\ Q w w':=by
 have hl:=GLst.made Value.string 9 w nmB 20 rfl (by unfold maxLen;omega);have he:(nmB.map Value.string).toArray = #[.string ⟨(nmL.getD 0 []).toArray⟩,.string ⟨(nmL.getD 1 []).toArray⟩,.string ⟨(nmL.getD 2 []).toArray⟩,.string ⟨(nmL.getD 3 []).toArray⟩,.string ⟨(nmL.getD 4 []).toArray⟩,.string ⟨(nmL.getD 5 []).toArray⟩,.string ⟨(nmL.getD 6 []).toArray⟩,.string ⟨(nmL.getD 7 []).toArray⟩,.string ⟨(nmL.getD 8 []).toArray⟩,.string ⟨(nmL.getD 9 []).toArray⟩,.string ⟨(nmL.getD 10 []).toArray⟩,.string ⟨(nmL.getD 11 []).toArray⟩,.string ⟨(nmL.getD 12 []).toArray⟩,.string ⟨(nmL.getD 13 []).toArray⟩,.string ⟨(nmL.getD 14 []).toArray⟩,.string ⟨(nmL.getD 15 []).toArray⟩,.string ⟨(nmL.getD 16 []).toArray⟩,.string ⟨(nmL.getD 17 []).toArray⟩,.string ⟨(nmL.getD 18 []).toArray⟩,.string ⟨(nmL.getD 19 []).toArray⟩]:=rfl;rw [he] at hl;clear he;have hc:∀ k,k < 20 -> ∀ w',SLst w' (.slice (some ⟨w.heap.size,0,none⟩) 20 20) nmB -> w'.cell? ⟨w.heap.size,k,none⟩ = some (.string ⟨(nmL.getD k []).toArray⟩):=by
  intro k hk w' h;obtain ⟨g,off,cap,hv,_,_,_,hc⟩:=GLst.cellOf h (n:=20) rfl (nmB_at k hk);cases hv;rw [Nat.zero_add] at hc;exact hc
 have HC:=Hd hc;have HL:=Hd hl;clear hc hl;go_enter Tryz.func135,Tryz.ntmps135
 go_wp2_with fail
 go_ret
 exact ⟨_,rfl,by simp,fun k hk=>HC.out k hk _ HL.out,HL.out,(Q.refl _).alloc _⟩
theorem noughts_any (w:World) :
  Calls Tryz.prog 136 #[] w fun e w'=>∃ g,e = .returned (.slice (some ⟨g,0,none⟩) 20 20) /\ (∀ k,k < 20 -> w'.cell? ⟨g,k,none⟩ = some (.int .i64 (zrs.getD k 0))) /\ Q w w':=by
 have hl:=Lst.made w zrs 20 rfl (by unfold maxLen;omega);have hc:∀ k,k < 20 -> ∀ w',Lst w' (.slice (some ⟨w.heap.size,0,none⟩) 20 20) zrs -> w'.cell? ⟨w.heap.size,k,none⟩ = some (.int .i64 (zrs.getD k 0)):=by
  intro k hk w' h;obtain ⟨g,off,cap,hv,_,_,_,hc⟩:=h.cellOf (n:=20) rfl hk;cases hv;rw [Nat.zero_add] at hc;exact hc
 have HC:=Hd hc;have HL:=Hd hl;clear hc hl;go_enter Tryz.func136,Tryz.ntmps136
 go_wp2_with fail
 go_ret
 exact ⟨_,rfl,fun k hk=>HC.out k hk _ HL.out,(Q.refl _).alloc _⟩
theorem zero_any (x:ByteArray) (w:World) :
  Calls Tryz.prog 74 #[.string x] w fun e w'=>e = .returned (.int .i64 (nz x.data.toList)) /\ Q w w':=by
 obtain ⟨y,hy⟩:∃ y,y = x.data.toList:=⟨_,rfl⟩;have HY:=Hd hy;have hm1:∀ k:Nat,k < 20 -> (⟨(nmL.getD k []).toArray⟩:ByteArray) = x -> nz x.data.toList = zrs.getD k 0:=by
  intro k hk h;rw [<- h];exact (nm_at k hk).1
 have hm2:(∀ k:Nat,k < 20 -> (⟨(nmL.getD k []).toArray⟩:ByteArray) ≠ x) -> nz x.data.toList = -1:=by
  intro h;rcases nz_cases x.data.toList with ⟨h1,_⟩ | h1
  ·exact h1
  ·exfalso
   have hmem:x.data.toList ∈ nmL:=List.mem_map.2 ⟨_,h1,rfl⟩;obtain ⟨k,hk,he⟩:=List.mem_iff_getElem.1 hmem;rw [nmL_len] at hk;refine h k hk ?_;rw [List.getD_eq_getElem?_getD,List.getElem?_eq_getElem (by rw [nmL_len];exact hk)];apply ba_ext;show nmL[k] = _;exact he
 have HM1:=Hd hm1;have HM2:=Hd hm2;clear hm1 hm2 hy;generalize nz x.data.toList = z at *;go_enter Tryz.func74,Tryz.ntmps74
 go_wp2_with fail
 refine (names_any _).mono ?_;rintro e w1 ⟨g,rfl,hg,hcell,hsl,hq1⟩;have HCE:=Hd hcell;clear hcell hsl;go_wp2_with fail
 go_loopw [4] (fun i wr=>∃ k:Nat,i = .int .i64 k /\ k <= 20 /\ (∀ j:Nat,j < k -> (⟨(nmL.getD j []).toArray⟩:ByteArray) ≠ x) /\ Q w1 wr) (fun i _=>20 - (intOf i).toNat)
 case atStart=>exact ⟨0,rfl,by omega,fun j hj=>absurd hj (Nat.not_lt_zero j),Q.refl _⟩
 case round =>
  obtain ⟨k,rfl,hk,hno,hq⟩:=hrel;by_cases hlt:k < 20
  ·have c1:wr.cell? ⟨g,k,none⟩ = some (.string ⟨(nmL.getD k []).toArray⟩):=(World.cell?_of_block (w:=w1) (hq.block hg)).trans (HCE.out k hlt)
   have hz1:=HM1.out k hlt;have hn1:(⟨(nmL.getD k []).toArray⟩:ByteArray) ≠ x -> ∀ j:Nat,j < k + 1 -> (⟨(nmL.getD j []).toArray⟩:ByteArray) ≠ x:=by
    intro h j hj;by_cases hjk:j = k
    ·subst hjk;exact h
    ·exact hno j (by omega)
   generalize (⟨(nmL.getD k []).toArray⟩:ByteArray) = p at c1 hz1 hn1;have HN:=Hd hn1;clear hno hn1;by_cases hp:p = x
   ·have HZ:=Hd (hz1 hp)
    subst hp;clear hz1;go_wp2_with fail
    refine (noughts_any _).mono ?_;rintro e w2 ⟨g2,rfl,hc2,hq2⟩;have c2:=hc2 k hlt;rw [<- HZ.out] at c2;clear hc2;go_wp2_with fail
    go_ret
    exact ⟨rfl,(hq1.trans hq).trans hq2⟩
   ·have ht:=str_ne hp
    have HN2:=Hd (HN.out hp);clear hz1 hp;go_wp2_with fail
    exact ⟨⟨k + 1,by go_num,by omega,HN2.out,hq⟩,by simp [intOf];omega⟩
  ·have hke:k = 20:=by omega
   subst hke;have HZ:=Hd (HM2.out hno);clear hno;go_wp2_with fail
   go_ret
   rw [HZ.out];exact ⟨rfl,hq1.trans hq⟩
theorem digit_any (x:ByteArray) (d:Int) (w:World) (h0:0 <= d) (h9:d <= 9) :
  Calls Tryz.prog 42 #[.string x,.int .i64 d] w fun e w'=>e = .returned (.string (encB (nz x.data.toList + d))) /\ Q w w':=by
 have hb:=nz_bd x.data.toList;have hb2:-1 <= nz x.data.toList /\ nz x.data.toList <= 120812:=by omega
 have hz:=fun w=>zero_any x w;clear hb;generalize nz x.data.toList = z at *;go_enter Tryz.func42,Tryz.ntmps42
 go_wp2_with (go_at_call 74;refine (hz _).mono ?_;rintro e w1 ⟨rfl,hq1⟩)
 refine (Ur.encode_any _ _).mono ?_;rintro e w2 ⟨rfl,hq2⟩;go_wp2_with fail
 go_ret
 exact ⟨rfl,hq1.trans hq2⟩
theorem name_any (n:Int) (w:World) (h0:-9223372036854775808 <= n) (h1:n <= 9223372036854775807) :
  Calls Tryz.prog 83 #[.int .i64 n] w fun e w'=>e = .returned (.string ⟨(nm n).toArray⟩) /\ Q w w':=by
 have hi:=idx_lt n;have hA:=fun w=>Ur.around_any n 20 w h0 h1 (by omega) (by omega);rw [idx_int] at hA;have hn:nm n = nmL.getD (idx n) []:=rfl;rw [hn];clear hn;generalize idx n = k at *;have HA:=Hd hA;clear hA;go_enter Tryz.func83,Tryz.ntmps83
 go_wp2_with fail
 refine (names_any _).mono ?_;rintro e w1 ⟨g,rfl,hg,hcell,hsl,hq1⟩;have c1:=hcell k hi;clear hcell hsl;obtain ⟨p,hp⟩:∃ p,p = (⟨(nmL.getD k []).toArray⟩:ByteArray):=⟨_,rfl⟩;rw [<- hp] at c1;have HP:=Hd hp;clear hp;go_wp2_with fail
 refine (HA.out _).mono ?_;rintro e w2 ⟨rfl,rfl⟩;go_wp2_with fail
 go_ret
 rw [<- HP.out];exact ⟨rfl,hq1⟩
end Sr
end
section
open Go.RowKit
namespace Tm
def LD (w:World) (B:Nat) (v:Value) (d:T):Prop:=∃ a1 c1 a2 c2,v = .agg #[.bool d.g,.slice a1 d.i.length c1,.bool d.s,.slice a2 d.f.length c2] /\ Own w B (.slice a1 d.i.length c1) d.i /\ Own w B (.slice a2 d.f.length c2) d.f
theorem LD.q {w w':World} {B:Nat} {v:Value} {d:T} (h:LD w B v d) (hq:Q w w'):LD w' B v d:=by
 obtain ⟨a1,c1,a2,c2,h0,h1,h2⟩:=h;exact ⟨a1,c1,a2,c2,h0,h1.q hq,h2.q hq⟩
theorem LD.mono {w:World} {B B':Nat} {v:Value} {d:T} (h:LD w B v d) (hB:B' <= B):LD w B' v d:=by
 obtain ⟨a1,c1,a2,c2,h0,h1,h2⟩:=h;exact ⟨a1,c1,a2,c2,h0,h1.mono hB,h2.mono hB⟩
theorem Own_past {w:World} {B g:Nat} {v:Value} {zs:List Int} {ty:TypeId} {l:List Value} (h:Own w B v zs) (hb:Bk w g ty l) (ht:ty ≠ 3) (k:Nat) (x:Value):Own (w.setCell ⟨g,k,none⟩ x) B v zs :=
 h.same fun b hv=>heap_setCell_other w ⟨g,k,none⟩ b x (by
  rintro rfl;obtain ⟨cur,hc⟩:=h.cells _ hv;unfold Bk at hb;rw [hb] at hc;simp at hc;exact ht hc.2)
theorem Own_past4 {w:World} {B g:Nat} {v:Value} {zs:List Int} {ty:TypeId} {l:List Value} (h:Own w B v zs) (hb:Bk w g ty l) (ht:ty ≠ 3) (x0 x1 x2 x3:Value) :
  Own ((((w.setCell ⟨g,0,none⟩ x0).setCell ⟨g,1,none⟩ x1).setCell ⟨g,2,none⟩ x2).setCell ⟨g,3,none⟩ x3) B v zs :=
 Own_past (Own_past (Own_past (Own_past h hb ht 0 x0) (hb.set 0 _) ht 1 x1) ((hb.set 0 _).set 1 _) ht 2 x2) (((hb.set 0 _).set 1 _).set 2 _) ht 3 x3
def gdT (g s:Bool) (I F:List Int) (p q:Nat):T:=⟨g,Dm.gdL I p,s,if s = true then Dm.gdL F q else []⟩
theorem gdT_may (g s:Bool) (I F:List Int) (p q:Nat):may (gdT g s I F p q) = true:=by
 unfold may gdT;dsimp only;rw [(Dm.okB_iff _).2 (Dm.gdL_ok I p)];cases s
 ·rfl
 ·rw [if_pos rfl,(Dm.okB_iff _).2 (Dm.gdL_ok F q)];rfl
theorem gdT_len (g s:Bool) (I F:List Int) (p q:Nat):(gdT g s I F p q).i.length <= p /\ (gdT g s I F p q).f.length <= q:=by
 unfold gdT;dsimp only;refine ⟨by rw [Dm.gdL_len];omega,?_⟩;cases s
 ·exact Nat.zero_le _
 ·rw [if_pos rfl,Dm.gdL_len];omega
end Tm
namespace Tr
open Tm
theorem infoR:(Tryz.prog.info? 26).map (·.size) = some 4:=by kernel_rfl
theorem ret_d {fn:Func} {p:Tmp} (h:fn.results = #[.cell p 26]) {R:Ending -> World -> Prop} {a:Act} {w:World} {g:Nat} {l:List Value}
  (hl:l.length = 4) (hp:a.tmps.getD p undef = .pointer (some ⟨g,0,none⟩)) (hg:Bk w g 26 l) (hd:a.defers = []) (hR:R (.returned (.agg l.toArray)) w):bodyPost Tryz.prog fn R .ret a w :=
 bodyPost_ret (results_cell_row h a.tmps w g 26 l.toArray (0,0) _ hp hg Tryz.underlying26 rfl (by rw [infoR];simp [hl])) hd hR
theorem atoms_any (g s:Bool) (a1 a2:Option Addr) (n1 n2 c1 c2:Nat) (I F:List Int) (w:World) (hi:Lst w (.slice a1 n1 c1) I) (hf:Lst w (.slice a2 n2 c2) F) (k1:I.length = n1) (k2:F.length = n2) (l1:n1 <= 100000) (l2:n2 <= 100000) :
  Calls Tryz.prog 41 #[.agg #[.bool g,.slice a1 n1 c1,.bool s,.slice a2 n2 c2]] w fun e w'=>∃ a c,e = .returned (.slice a (n1 + (sep s).length + n2) c) /\ Own w' (w.heap.size + 1) (.slice a (n1 + (sep s).length + n2) c) (I ++ sep s ++ F) /\ Q w w':=by
 have HI:=Hd (fun u (q:Q w u)=>hi.q q);have HF:=Hd (fun u (q:Q w u)=>hf.q q);have HL:=Hd (⟨k1,k2⟩:_ /\ _);clear hi hf k1 k2;obtain ⟨z,hz⟩:∃ y,y = w.alloc (.cells #[.bool g,.slice a1 n1 c1,.bool s,.slice a2 n2 c2] 26):=⟨_,rfl⟩;have HQ:=Hd (show Q w z by rw [hz];exact (Q.refl w).alloc _);have HB:=Hd (show Bk z w.heap.size 26 [.bool g,.slice a1 n1 c1,.bool s,.slice a2 n2 c2] by rw [hz];exact Bk.new _ _ _);have HZ:=Hd (show z.heap.size = w.heap.size + 1 by rw [hz];simp);have hol:=Own.nil z (w.heap.size + 1);have HBZ:=Hd (Nat.le_of_eq HZ.out.symm);have HW:=Hd (show ([]:List Int).length + I.length < 1099511627776 from by rw [HL.out.1];show 0 + _ < _;omega);have HIZ:=Hd (HI.out z HQ.out);have x1:=HB.out.cell 1 rfl;cases s
 ·go_enter Tryz.func41,Tryz.ntmps41
  go_upto_region 1 with fail
  rw [<- hz];clear hz;go_wp2_with (at_builtin;refine push_list hol HIZ.out rfl _ _ rfl (by rfl) (by rfl) HW.out HBZ.out ?_)
  intro v1 u1 ho1 hg1 hat1;have HO1:=Hd (show Own u1 (w.heap.size + 1) v1 I from ho1);have HQZ:=Hd (show Q z u1 from (Q.refl z).grown hg1 (fun k hk=>by cases hk));clear ho1 hg1 hat1 x1 hol;have x2:=(HB.out.q HQZ.out).cell 2 rfl;have HO2:=Hd (show Own u1 (w.heap.size + 1) v1 (I ++ []) from by rw [List.append_nil];exact HO1.out);have HQZ2:=HQZ;have x3:=(HB.out.q HQZ2.out).cell 3 rfl;have HFU:=Hd (HF.out _ (HQ.out.trans HQZ2.out));have HW2:=Hd (show (I ++ []).length + F.length < 1099511627776 from by rw [List.length_append,HL.out.1,HL.out.2];show _ + 0 + _ < _;omega);have HBU2:=Hd (Nat.le_trans HBZ.out HQZ2.out.le);go_wp2_with (at_builtin;refine push_list HO2.out HFU.out rfl _ _ rfl (by rfl) (by rfl) HW2.out HBU2.out ?_)
  intro v3 u3 ho3 hg3 hat3;have HO3:=Hd ho3;have HQZ3:=Hd (show Q z u3 from HQZ2.out.grown hg3 (fun k hk=>by rw [HZ.out];exact (HO2.out.lt k hk).1));clear ho3 hg3 hat3 x3;have hfin:Own u3 (w.heap.size + 1) v3 (I ++ sep false ++ F):=by simpa [sep] using HO3.out
  obtain ⟨ra,rc,hr,_,_⟩:=hfin.lst.form0 (n:=n1 + (sep false).length + n2) (by rw [List.length_append,List.length_append,HL.out.1,HL.out.2]);subst hr;have HFIN:=Hd hfin;clear hfin;go_wp2_with fail
  go_ret
  exact ⟨ra,rc,rfl,HFIN.out,HQ.out.trans HQZ3.out⟩
 ·go_enter Tryz.func41,Tryz.ntmps41
  go_upto_region 1 with fail
  rw [<- hz];clear hz;go_wp2_with (at_builtin;refine push_list hol HIZ.out rfl _ _ rfl (by rfl) (by rfl) HW.out HBZ.out ?_)
  intro v1 u1 ho1 hg1 hat1;have HO1:=Hd (show Own u1 (w.heap.size + 1) v1 I from ho1);have HQZ:=Hd (show Q z u1 from (Q.refl z).grown hg1 (fun k hk=>by cases hk));clear ho1 hg1 hat1 x1 hol;have x2:=(HB.out.q HQZ.out).cell 2 rfl;have HW1:=Hd (show I.length < 1099511627776 from by rw [HL.out.1];omega);have HBU:=Hd (Nat.le_trans HBZ.out HQZ.out.le);go_wp2_with (at_builtin;refine push_int HO1.out rfl _ _ rfl 10 (by rfl) (by rfl) HW1.out HBU.out ?_)
  intro v2 u2 ho2 hg2 hat2;have HO2:=Hd (show Own u2 (w.heap.size + 1) v2 (I ++ [10]) from ho2);have HQZ2:=Hd (show Q z u2 from HQZ.out.grown hg2 (fun k hk=>by rw [HZ.out];exact (HO1.out.lt k hk).1));clear ho2 hg2 hat2 x2;have x3:=(HB.out.q HQZ2.out).cell 3 rfl;have HFU:=Hd (HF.out _ (HQ.out.trans HQZ2.out));have HW2:=Hd (show (I ++ [10]).length + F.length < 1099511627776 from by rw [List.length_append,HL.out.1,HL.out.2];show _ + 1 + _ < _;omega);have HBU2:=Hd (Nat.le_trans HBZ.out HQZ2.out.le);go_wp2_with (at_builtin;refine push_list HO2.out HFU.out rfl _ _ rfl (by rfl) (by rfl) HW2.out HBU2.out ?_)
  intro v3 u3 ho3 hg3 hat3;have HO3:=Hd ho3;have HQZ3:=Hd (show Q z u3 from HQZ2.out.grown hg3 (fun k hk=>by rw [HZ.out];exact (HO2.out.lt k hk).1));clear ho3 hg3 hat3 x3;have hfin:Own u3 (w.heap.size + 1) v3 (I ++ sep true ++ F):=by simpa [sep] using HO3.out
  obtain ⟨ra,rc,hr,_,_⟩:=hfin.lst.form0 (n:=n1 + (sep true).length + n2) (by rw [List.length_append,List.length_append,HL.out.1,HL.out.2]);subst hr;have HFIN:=Hd hfin;clear hfin;go_wp2_with fail
  go_ret
  exact ⟨ra,rc,rfl,HFIN.out,HQ.out.trans HQZ3.out⟩
theorem good_any (g s:Bool) (a1 a2:Option Addr) (n1 n2 c1 c2:Nat) (I F:List Int) (w:World) (hi:Lst w (.slice a1 n1 c1) I) (hf:Lst w (.slice a2 n2 c2) F) (k1:I.length = n1) (k2:F.length = n2) (l1:n1 <= 9223372036854775807) (l2:n2 <= 9223372036854775807) (bi:∀ n ∈ I,-9223372036854775808 <= n /\ n <= 9223372036854775807) (bf:∀ n ∈ F,-9223372036854775808 <= n /\ n <= 9223372036854775807) (p q:Nat) (hp:p <= 1000) (hq:q <= 1000) :
  Calls Tryz.prog 10 #[.agg #[.bool g,.slice a1 n1 c1,.bool s,.slice a2 n2 c2],.int .i64 p,.int .i64 q] w fun e w'=>∃ x,e = .returned x /\ LD w' (w.heap.size + 2) x (gdT g s I F p q) /\ Q w w':=by
 have HG1:=Hd (fun u (qq:Q w u)=>Dr.good_any _ I p u (hi.q qq) (by omega) (by omega) bi);have HG2:=Hd (fun u (qq:Q w u)=>Dr.good_any _ F q u (hf.q qq) (by omega) (by omega) bf);have hgd:gdT g s I F p q = ⟨g,Dm.gdL I p,s,if s = true then Dm.gdL F q else []⟩:=rfl
 obtain ⟨G,hG⟩:∃ G,G = gdT g s I F p q:=⟨_,rfl⟩;rw [<- hG] at hgd |-;generalize Dm.gdL I p = I2 at *;generalize Dm.gdL F q = F2 at *;obtain ⟨m1,hm1⟩:∃ m1,m1 = I2.length:=⟨_,rfl⟩;obtain ⟨m2,hm2⟩:∃ m2,m2 = F2.length:=⟨_,rfl⟩;have HG:=Hd hgd;have HM:=Hd (⟨hm1.symm,hm2.symm⟩:_ /\ _);clear hi hf k1 k2 bi bf hgd hG hm1 hm2;obtain ⟨y,hy⟩:∃ y,y = w.alloc (.cells #[.bool g,.slice a1 n1 c1,.bool s,.slice a2 n2 c2] 26):=⟨_,rfl⟩;have hqy:Q w y:=by rw [hy];exact (Q.refl w).alloc _
 have hby:Bk y w.heap.size 26 [.bool g,.slice a1 n1 c1,.bool s,.slice a2 n2 c2]:=by rw [hy];exact Bk.new _ _ _
 have hsy:y.heap.size = w.heap.size + 1:=by rw [hy];simp
 obtain ⟨z,hz⟩:∃ z,z = y.alloc (.cells #[.bool false,.slice none 0 0,.bool false,.slice none 0 0] 26):=⟨_,rfl⟩;have hqz:Q y z:=by rw [hz];exact (Q.refl y).alloc _
 have HQ:=Hd (hqy.trans hqz);have HB:=Hd (hby.q hqz);have HD:=Hd (show Bk z (w.heap.size + 1) 26 [.bool false,.slice none 0 0,.bool false,.slice none 0 0] by rw [hz,<- hsy];exact Bk.new _ _ _);have HZ:=Hd (show z.heap.size = w.heap.size + 2 by rw [hz];simp [hsy]);have HWD:=Hd (Nat.le_succ w.heap.size);have hz2:z = (w.alloc (.cells #[.bool g,.slice a1 n1 c1,.bool s,.slice a2 n2 c2] 26)).alloc (.cells #[.bool false,.slice none 0 0,.bool false,.slice none 0 0] 26):=by rw [hz,hy]
 clear hqy hby hsy hqz hz hy;go_enter Tryz.func10,Tryz.ntmps10
 go_upto_region 1 with fail
 rw [<- hz2];clear hz2;go_cut [7] from 8 (fun p wx=>∃ b ia ic,p = .pointer (some ⟨b,0,none⟩) /\ z.heap.size <= b /\ Bk wx b 26 [.bool g,.slice ia m1 ic,.bool s,.slice none 0 0] /\ Own wx z.heap.size (.slice ia m1 ic) I2 /\ Q z wx)
 case first =>
  refine wp_region_held_drew (S:=fun u=>Q z u) (by kernel_rfl) (by exact (Q.refl z).drew) (fun hHeld=>?_);have hS:Q z z.drew:=hHeld;clear hHeld;have hq:Q z z.drew:=(Q.refl _).drew;clear hq;generalize z.drew = yR1x0 at *;change wpAnyH _ _ _ _ _ _ #[ff,ff,ff,ff,ff,ff,ff,ff,ff,ff,ff] _ _;refine tk 0 (by simp only [gA,gB,gC];rfl) (by first | kernel_rfl | rfl) (fun uz _=>by go_simp;try with_reducible rfl) pq hS ?_;try simp only [Act.put,sA,sB,sC]
  refine tk 1 (by simp only [gA,gB,gC];rfl) (by first | kernel_rfl | rfl) (fun uz hSw=>by (try dsimp only at hSw);have hxx:=HB.out.q hSw;have d0:=hxx.cell 0 rfl;clear hxx;go_simp;try with_reducible rfl) pq hS ?_;try simp only [Act.put,sA,sB,sC]
  refine tk 2 (by simp only [gA,gB,gC];rfl) (by first | kernel_rfl | rfl) (fun uz _=>by go_simp;try with_reducible rfl) pq hS ?_;try simp only [Act.put,sA,sB,sC]
  refine tk 3 (by simp only [gA,gB,gC];rfl) (by first | kernel_rfl | rfl) (fun uz hSw=>by (try dsimp only at hSw);have hxx:=HB.out.q hSw;have d0:=hxx.cell 1 rfl;clear hxx;go_simp;try with_reducible rfl) pq hS ?_;try simp only [Act.put,sA,sB,sC]
  refine tk 4 (by simp only [gA,gB,gC];rfl) (by first | kernel_rfl | rfl) (fun uz _=>by go_simp;try with_reducible rfl) pq hS ?_;try simp only [Act.put,sA,sB,sC]
  refine tk 6 (by simp only [gA,gB,gC];rfl) (by first | kernel_rfl | rfl) (fun uz _=>by go_simp;try with_reducible rfl) pq hS ?_;try simp only [Act.put,sA,sB,sC]
  refine tk 7 (by simp only [gA,gB,gC];rfl) (by first | kernel_rfl | rfl) (fun uz hSw=>by (try dsimp only at hSw);have hxx:=HB.out.q hSw;have d0:=hxx.cell 2 rfl;clear hxx;go_simp;try with_reducible rfl) pq hS ?_;try simp only [Act.put,sA,sB,sC]
  refine wpAnyH_ready (rs:=[5,9]) (by kernel_rfl) (by simp) ?_;refine (AllReadyH.cons (by (try simp only [gA,gB,gC]);rfl) (fun K hK=>?_) (AllReadyH.cons (by (try simp only [gA,gB,gC]);rfl) (fun K hK=>?_) AllReadyH.nil))
  ·go_simp
   refine (HG1.out _ (HQ.out.trans hS)).mono ?_;rintro e yR1x8 ⟨xo,rfl,hz0,hq⟩;obtain ⟨ia,ic,rfl,_,_⟩:=hz0.lst.form0 HM.out.1;have HI7:=Hd (hz0.mono hS.le);clear hz0;try (go_wp2_with fail)
   have hS2:=Q.trans hS hq;refine hK.out _ _ (by exact hS2) (fun hHeld=>?_);clear hK K hHeld hS hq;have hS:=hS2;clear hS2;try simp only [Act.put,sA,sB,sC]
   refine tk 8 (by simp only [gA,gB,gC];rfl) (by first | kernel_rfl | rfl) (fun uz _=>by go_simp;try with_reducible rfl) pq hS ?_;try simp only [Act.put,sA,sB,sC]
   refine wpAnyH_ready (rs:=[9]) (by kernel_rfl) (by simp) ?_;refine ar (by (try simp only [gA,gB,gC]);rfl) fun K hK=>?_;go_simp
   have hq:=(Q.refl yR1x8).alloc (.cells #[.bool false,.slice none 0 0,.bool false,.slice none 0 0] 26);have HBX:=Hd (Bk.new yR1x8 26 [.bool false,.slice none 0 0,.bool false,.slice none 0 0]);have HW_bX:=Hd (Q.le hS);have HI7:=Hd (Own.q HI7.out hq);have hS2:=Q.trans hS hq;refine hK.out _ _ (by exact hS2) (fun hHeld=>?_);clear hK K hHeld hS hq;have hS:=hS2;clear hS2;generalize yR1x8.alloc (.cells #[.bool false,.slice none 0 0,.bool false,.slice none 0 0] 26) = yR1x10 at *;generalize yR1x8.heap.size = bX at *;try simp only [Act.put,sA,sB,sC]
   refine wpAnyH_ready (rs:=[10]) (by kernel_rfl) (by simp) ?_;refine ar (by (try simp only [gA,gB,gC]);rfl) fun K hK=>?_;have b0:=HBX.out.cell 0 rfl;have f0:=HBX.out.free 0;have b1:=HBX.out.cell 1 rfl;have f1:=HBX.out.free 1;have b2:=HBX.out.cell 2 rfl;have f2:=HBX.out.free 2;have b3:=HBX.out.cell 3 rfl;have f3:=HBX.out.free 3;go_simp
   have hS2:=(Q.setCell (Q.setCell (Q.setCell (Q.setCell hS (ad:=⟨bX,0,none⟩) HW_bX.out (.bool g)) (ad:=⟨bX,1,none⟩) HW_bX.out (.slice ia m1 ic)) (ad:=⟨bX,2,none⟩) HW_bX.out (.bool s)) (ad:=⟨bX,3,none⟩) HW_bX.out (.slice none 0 0));have HE:=Hd ((((HBX.out.set 0 (.bool g)).set 1 (.slice ia m1 ic)).set 2 (.bool s)).set 3 (.slice none 0 0));replace HI7:=Hd (Own_past4 HI7.out HBX.out (by decide) (.bool g) (.slice ia m1 ic) (.bool s) (.slice none 0 0));refine hK.out _ _ (by exact hS2) (fun hHeld=>?_);clear hK K hHeld hS;have hS:=hS2;clear hS2 b0 f0 b1 f1 b2 f2 b3 f3;generalize ((((yR1x10.setCell ⟨bX,0,none⟩ (.bool g)).setCell ⟨bX,1,none⟩ (.slice ia m1 ic)).setCell ⟨bX,2,none⟩ (.bool s)).setCell ⟨bX,3,none⟩ (.slice none 0 0)) = yR1x11 at *;try simp only [Act.put,sA,sB,sC]
   refine wpAnyH_done (by kernel_rfl) ?_ _;go_wp2_with fail
   go_meet
   exact ⟨bX,ia,ic,rfl,HW_bX.out,HE.out,HI7.out,hS⟩
  ·go_simp
   have hq:=(Q.refl yR1x0).alloc (.cells #[.bool false,.slice none 0 0,.bool false,.slice none 0 0] 26);have HBX:=Hd (Bk.new yR1x0 26 [.bool false,.slice none 0 0,.bool false,.slice none 0 0]);have HW_bX:=Hd (Q.le hS);have hS2:=Q.trans hS hq;refine hK.out _ _ (by exact hS2) (fun hHeld=>?_);clear hK K hHeld hS hq;have hS:=hS2;clear hS2;generalize yR1x0.alloc (.cells #[.bool false,.slice none 0 0,.bool false,.slice none 0 0] 26) = yR1x12 at *;generalize yR1x0.heap.size = bX at *;try simp only [Act.put,sA,sB,sC]
   refine wpAnyH_ready (rs:=[5]) (by kernel_rfl) (by simp) ?_;refine ar (by (try simp only [gA,gB,gC]);rfl) fun K hK=>?_;go_simp
   refine (HG1.out _ (HQ.out.trans hS)).mono ?_;rintro e yR1x13 ⟨xo,rfl,hz0,hq⟩;obtain ⟨ia,ic,rfl,_,_⟩:=hz0.lst.form0 HM.out.1;have HI7:=Hd (hz0.mono hS.le);clear hz0;try (go_wp2_with fail)
   have HBX:=Hd (Bk.q HBX.out hq);have hS2:=Q.trans hS hq;refine hK.out _ _ (by exact hS2) (fun hHeld=>?_);clear hK K hHeld hS hq;have hS:=hS2;clear hS2;try simp only [Act.put,sA,sB,sC]
   refine tk 8 (by simp only [gA,gB,gC];rfl) (by first | kernel_rfl | rfl) (fun uz _=>by go_simp;try with_reducible rfl) pq hS ?_;try simp only [Act.put,sA,sB,sC]
   refine wpAnyH_ready (rs:=[10]) (by kernel_rfl) (by simp) ?_;refine ar (by (try simp only [gA,gB,gC]);rfl) fun K hK=>?_;have b0:=HBX.out.cell 0 rfl;have f0:=HBX.out.free 0;have b1:=HBX.out.cell 1 rfl;have f1:=HBX.out.free 1;have b2:=HBX.out.cell 2 rfl;have f2:=HBX.out.free 2;have b3:=HBX.out.cell 3 rfl;have f3:=HBX.out.free 3;go_simp
   have hS2:=(Q.setCell (Q.setCell (Q.setCell (Q.setCell hS (ad:=⟨bX,0,none⟩) HW_bX.out (.bool g)) (ad:=⟨bX,1,none⟩) HW_bX.out (.slice ia m1 ic)) (ad:=⟨bX,2,none⟩) HW_bX.out (.bool s)) (ad:=⟨bX,3,none⟩) HW_bX.out (.slice none 0 0));have HE:=Hd ((((HBX.out.set 0 (.bool g)).set 1 (.slice ia m1 ic)).set 2 (.bool s)).set 3 (.slice none 0 0));replace HI7:=Hd (Own_past4 HI7.out HBX.out (by decide) (.bool g) (.slice ia m1 ic) (.bool s) (.slice none 0 0));refine hK.out _ _ (by exact hS2) (fun hHeld=>?_);clear hK K hHeld hS;have hS:=hS2;clear hS2 b0 f0 b1 f1 b2 f2 b3 f3;generalize ((((yR1x13.setCell ⟨bX,0,none⟩ (.bool g)).setCell ⟨bX,1,none⟩ (.slice ia m1 ic)).setCell ⟨bX,2,none⟩ (.bool s)).setCell ⟨bX,3,none⟩ (.slice none 0 0)) = yR1x15 at *;try simp only [Act.put,sA,sB,sC]
   refine wpAnyH_done (by kernel_rfl) ?_ _;go_wp2_with fail
   go_meet
   exact ⟨bX,ia,ic,rfl,HW_bX.out,HE.out,HI7.out,hS⟩
 case rest =>
  obtain ⟨b,ia,ic,rfl,hbu,hbk,hi7,hq⟩:=hcut;obtain ⟨u7,hu7⟩:∃ x,x = wc:=⟨_,rfl⟩;subst hu7;have HB7:=Hd (HB.out.q hq);have HD7:=Hd (HD.out.q hq);have HQ7:=Hd (HQ.out.trans hq);have HBU:=Hd hbu;have HWX:=Hd (Nat.le_trans HQ.out.le hbu);have HNX:=Hd (show b ≠ w.heap.size + 1 by have:=HZ.out;omega);have HZ7:=Hd hq.le;have HK7:=Hd hbk;have HI7:=Hd hi7;clear hbu hbk hi7 hq HD HB;have x2:=HB7.out.cell 2 rfl;have x3:=HB7.out.cell 3 rfl;cases s
  ·have y0:=HK7.out.cell 0 rfl
   have g0:=HK7.out.free 0;have y1:=HK7.out.cell 1 rfl;have g1:=HK7.out.free 1;have y2:=HK7.out.cell 2 rfl;have g2:=HK7.out.free 2;have y3:=HK7.out.cell 3 rfl;have g3:=HK7.out.free 3;have b0:=HD7.out.cell 0 rfl;have f0:=HD7.out.free 0;have b1:=HD7.out.cell 1 rfl;have f1:=HD7.out.free 1;have b2:=HD7.out.cell 2 rfl;have f2:=HD7.out.free 2;have b3:=HD7.out.cell 3 rfl;have f3:=HD7.out.free 3;go_wp2_with fail
   have hz1:=Own_past4 HI7.out HD7.out (by decide) (.bool g) (.slice ia m1 ic) (.bool false) (.slice none 0 0);rw [HZ.out] at hz1;refine ret_d rfl rfl rfl ((((HD7.out.set 0 _).set 1 _).set 2 _).set 3 _) rfl ⟨_,rfl,?_,Q.setCell (Q.setCell (Q.setCell (Q.setCell HQ7.out HWD.out _) HWD.out _) HWD.out _) HWD.out _⟩;rw [HG.out];exact ⟨ia,ic,none,0,by dsimp only;rw [HM.out.1];rfl,by dsimp only;rw [HM.out.1];exact hz1,Own.nil _ _⟩
  ·go_wp2_with fail
   refine (HG2.out _ HQ7.out).mono ?_;rintro e u8 ⟨x8,rfl,ho8,hq⟩;obtain ⟨fa,fc,rfl,_,_⟩:=ho8.lst.form0 HM.out.2;have hk:=HK7.out.q hq;have y3:=hk.cell 3 rfl;have g3:=hk.free 3;have HK9:=Hd (hk.set 3 (.slice fa m2 fc));have HI9:=Hd (Own_past (HI7.out.q hq) hk (by decide) 3 (.slice fa m2 fc));have HF9:=Hd (Own_past (ho8.mono HZ7.out) hk (by decide) 3 (.slice fa m2 fc));have HD9:=Hd ((HD7.out.q hq).past (g:=b) (i:=3) HNX.out (.slice fa m2 fc));have HQ9:=Hd (Q.setCell (HQ7.out.trans hq) (ad:=⟨b,3,none⟩) HWX.out (.slice fa m2 fc));obtain ⟨u9,hu9⟩:∃ u,u = u8.setCell ⟨b,3,none⟩ (.slice fa m2 fc):=⟨_,rfl⟩;rw [<- hu9] at HK9 HI9 HF9 HD9 HQ9;clear hk ho8 hq HK7 HI7 HD7 HQ7 x2 x3;go_upto_region 4 with fail
   rw [<- hu9];clear hu9 y3 g3;have y0:=HK9.out.cell 0 rfl;have g0:=HK9.out.free 0;have y1:=HK9.out.cell 1 rfl;have g1:=HK9.out.free 1;have y2:=HK9.out.cell 2 rfl;have g2:=HK9.out.free 2;have y3:=HK9.out.cell 3 rfl;have g3:=HK9.out.free 3;have b0:=HD9.out.cell 0 rfl;have f0:=HD9.out.free 0;have b1:=HD9.out.cell 1 rfl;have f1:=HD9.out.free 1;have b2:=HD9.out.cell 2 rfl;have f2:=HD9.out.free 2;have b3:=HD9.out.cell 3 rfl;have f3:=HD9.out.free 3;go_wp2_with fail
   have hz1:=Own_past4 HI9.out HD9.out (by decide) (.bool g) (.slice ia m1 ic) (.bool true) (.slice fa m2 fc);rw [HZ.out] at hz1;have hz2:=Own_past4 HF9.out HD9.out (by decide) (.bool g) (.slice ia m1 ic) (.bool true) (.slice fa m2 fc);rw [HZ.out] at hz2;refine ret_d rfl rfl rfl ((((HD9.out.set 0 _).set 1 _).set 2 _).set 3 _) rfl ⟨_,rfl,?_,Q.setCell (Q.setCell (Q.setCell (Q.setCell HQ9.out HWD.out _) HWD.out _) HWD.out _) HWD.out _⟩;rw [HG.out];exact ⟨ia,ic,fa,fc,by dsimp only;rw [if_pos trivial,HM.out.1,HM.out.2];rfl,by dsimp only;rw [HM.out.1];exact hz1,by dsimp only;rw [if_pos trivial,HM.out.2];exact hz2⟩
end Tr
end
section
namespace Im
def affE (r:Lm.Rec) (p:Pb.E):E:=if p.1 = true then (1,Lm.bs r.min,-1) else (0,Lm.bs p.2,-1)
def affI (r:Lm.Rec) (l:List Pb.E):List E:=l.map (affE r)
theorem affI_len (r:Lm.Rec) (l:List Pb.E):(affI r l).length = l.length:=List.length_map _
theorem affI_take (r:Lm.Rec) (l:List Pb.E) (k:Nat) (hk:k < l.length):affI r (l.take (k + 1)) = affI r (l.take k) ++ [affE r (l.getD k (false,[]))]:=by
 unfold affI;rw [List.take_add_one,List.getElem?_eq_getElem hk,List.map_append,List.getD_eq_getElem?_getD,List.getElem?_eq_getElem hk];rfl
def grpI (r:Lm.Rec) (l p s:Int):List E:=if endB l p s = true then [(3,Lm.bs r.grp,-1)] else []
theorem grpI_len (r:Lm.Rec) (l p s:Int):(grpI r l p s).length <= 1:=by unfold grpI;split <;> simp
def dgE (r:Lm.Rec) (x:Int) (i:Int):E:=(2,Lm.dgt r x.toNat,i)
def whI (r:Lm.Rec) (p s:Int) (I:List Int):Nat -> List E
 | 0=>[]
 | k + 1=>whI r p s I k ++ (dgE r (I.getD k 0) k :: grpI r ((I.length:Int) - 1 - k) p s)
theorem whI_zero (r:Lm.Rec) (p s:Int) (I:List Int):whI r p s I 0 = []:=rfl
theorem whI_succ (r:Lm.Rec) (p s:Int) (I:List Int) (k:Nat):whI r p s I (k + 1) = whI r p s I k ++ (dgE r (I.getD k 0) k :: grpI r ((I.length:Int) - 1 - k) p s):=rfl
theorem whI_len (r:Lm.Rec) (p s:Int) (I:List Int) (k:Nat):(whI r p s I k).length <= 2 * k:=by
 induction k with
 | zero=>simp [whI]
 | succ k ih =>
  rw [whI_succ,List.length_append,List.length_cons];have:=grpI_len r ((I.length:Int) - 1 - k) p s;omega
def reI (r:Lm.Rec) (n:Nat) (F:List Int):Nat -> List E
 | 0=>[(4,Lm.bs r.dec,(n:Int))]
 | k + 1=>reI r n F k ++ [dgE r (F.getD k 0) ((n:Int) + ((k + 1:Nat):Int))]
theorem reI_zero (r:Lm.Rec) (n:Nat) (F:List Int):reI r n F 0 = [(4,Lm.bs r.dec,(n:Int))]:=rfl
theorem reI_succ (r:Lm.Rec) (n:Nat) (F:List Int) (k:Nat):reI r n F (k + 1) = reI r n F k ++ [dgE r (F.getD k 0) ((n:Int) + ((k + 1:Nat):Int))]:=rfl
theorem reI_len (r:Lm.Rec) (n:Nat) (F:List Int) (k:Nat):(reI r n F k).length = k + 1:=by
 induction k with
 | zero=>rfl
 | succ k ih=>rw [reI_succ,List.length_append,ih];rfl
def resI (r:Lm.Rec) (d:Tm.T):List E:=if d.s = true then reI r d.i.length d.f d.f.length else []
theorem resI_len (r:Lm.Rec) (d:Tm.T):(resI r d).length <= d.f.length + 1:=by
 unfold resI;split
 ·rw [reI_len];omega
 ·simp
def midI (r:Lm.Rec) (p s:Int) (d:Tm.T):List E:=whI r p s d.i d.i.length ++ resI r d
def itm (r:Lm.Rec) (p s:Int) (d:Tm.T) (A B:List Pb.E):List E:=affI r A ++ whI r p s d.i d.i.length ++ resI r d ++ affI r B
theorem itm_mid (r:Lm.Rec) (p s:Int) (d:Tm.T) (A B:List Pb.E):itm r p s d A B = affI r A ++ midI r p s d ++ affI r B:=by
 unfold itm midI;simp [List.append_assoc]
theorem itm_len (r:Lm.Rec) (p s:Int) (d:Tm.T) (A B:List Pb.E):(itm r p s d A B).length <= A.length + 2 * d.i.length + d.f.length + 1 + B.length:=by
 unfold itm;rw [List.length_append,List.length_append,List.length_append,affI_len,affI_len];have h1:=whI_len r p s d.i d.i.length;have h2:=resI_len r d;omega
def stpI (r:Lm.Rec) (p s n:Int) (L:List Int) (k:Nat):List E:=if L.getD k 0 = 10 then [(4,Lm.bs r.dec,(k:Int))] else dgE r (L.getD k 0) k :: grpI r (n - 1 - k) p s
def rowI (r:Lm.Rec) (p s n:Int) (L:List Int):Nat -> List E
 | 0=>[]
 | k + 1=>rowI r p s n L k ++ stpI r p s n L k
theorem rowI_zero (r:Lm.Rec) (p s n:Int) (L:List Int):rowI r p s n L 0 = []:=rfl
theorem rowI_succ (r:Lm.Rec) (p s n:Int) (L:List Int) (k:Nat):rowI r p s n L (k + 1) = rowI r p s n L k ++ stpI r p s n L k:=rfl
theorem stpI_len (r:Lm.Rec) (p s n:Int) (L:List Int) (k:Nat):(stpI r p s n L k).length <= 2:=by
 unfold stpI;split
 ·simp
 ·rw [List.length_cons];have:=grpI_len r (n - 1 - k) p s;omega
theorem rowI_len (r:Lm.Rec) (p s n:Int) (L:List Int) (k:Nat):(rowI r p s n L k).length <= 2 * k:=by
 induction k with
 | zero=>simp [rowI]
 | succ k ih =>
  rw [rowI_succ,List.length_append];have:=stpI_len r p s n L k;omega
theorem digit_at {I:List Int} (h:Dm.okD I) (k:Nat):0 <= I.getD k 0 /\ I.getD k 0 <= 9:=by
 rw [List.getD_eq_getElem?_getD];cases hk:I[k]? with
 | none=>simp
 | some x =>
  have:=h x (List.mem_of_getElem? hk);simpa using this
theorem row_whole (r:Lm.Rec) (p s:Int) (I R:List Int) (hI:Dm.okD I) (k:Nat) (hk:k <= I.length):rowI r p s I.length (I ++ R) k = whI r p s I k:=by
 induction k with
 | zero=>rfl
 | succ k ih =>
  rw [rowI_succ,whI_succ,ih (by omega)];have e:(I ++ R).getD k 0 = I.getD k 0:=by
   rw [List.getD_eq_getElem?_getD,List.getD_eq_getElem?_getD,List.getElem?_append_left (by omega)]
  have h:=digit_at hI k;unfold stpI;rw [e,if_neg (by omega)]
theorem row_rest (r:Lm.Rec) (p s:Int) (I F:List Int) (hI:Dm.okD I) (hF:Dm.okD F) (k:Nat) (hk:k <= F.length):rowI r p s I.length (I ++ [10] ++ F) (I.length + 1 + k) = whI r p s I I.length ++ reI r I.length F k:=by
 induction k with
 | zero =>
  rw [Nat.add_zero,rowI_succ,List.append_assoc,row_whole r p s I _ hI _ (Nat.le_refl _)];congr 1
  unfold stpI;rw [List.getD_eq_getElem?_getD,List.getElem?_append_right (Nat.le_refl _)];simp [reI_zero]
 | succ k ih =>
  rw [<- Nat.add_assoc,rowI_succ,ih (by omega),reI_succ,List.append_assoc];congr 2
  have e:(I ++ [10] ++ F).getD (I.length + 1 + k) 0 = F.getD k 0:=by
   rw [List.getD_eq_getElem?_getD,List.getD_eq_getElem?_getD,List.getElem?_append_right (by simp),List.length_append];congr 2
   simp
  have h:=digit_at hF k;unfold stpI grpI;rw [e,if_neg (by omega),endB_low (by omega)];simp [dgE];omega
theorem row_all (r:Lm.Rec) (p s:Int) (d:Tm.T) (h:Tm.may d = true):rowI r p s d.i.length (Tm.ats d) (Tm.ats d).length = midI r p s d:=by
 obtain ⟨h1,h2,h3⟩:=Tm.may_dig h;unfold midI resI;cases hs:d.s
 ·have hf:=h3 hs
  have e:Tm.ats d = d.i ++ []:=by unfold Tm.ats;rw [hs,hf];simp [Tm.sep]
  rw [e,row_whole r p s d.i [] h1 _ (by simp)];simp
 ·have e:Tm.ats d = d.i ++ [10] ++ d.f:=by unfold Tm.ats;rw [hs];rfl
  have e2:(d.i ++ ([10]:List Int) ++ d.f).length = d.i.length + 1 + d.f.length:=by simp;omega
  rw [e,e2,row_rest r p s d.i d.f h1 h2 _ (Nat.le_refl _),if_pos rfl]
end Im
end
end Go.Proofs.YtdjhkbholijnmaaGreatDoor
