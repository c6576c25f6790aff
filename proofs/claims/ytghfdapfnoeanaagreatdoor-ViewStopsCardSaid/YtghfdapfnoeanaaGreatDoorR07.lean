/- What the library's Cut and Split at one byte and its Contains of texts answer here; what the program makes of a number's signs. (and more) -/
import Derived.Test.YtghfdapfnoeanaaGreatDoorR00
import Derived.Test.YtghfdapfnoeanaaGreatDoorR01
import Derived.Test.YtghfdapfnoeanaaGreatDoorR02
import Derived.Test.YtghfdapfnoeanaaGreatDoorR06
import Derived.Test.YtghfdapfnoeanaaGreatDoorRows
import Derived.Test.YtghfdapfnoeanaaGreatDoorR03
import Derived.Shelf.Strings.Split
import Derived.Shelf.Strings.Cut
import Derived.Deep.QuietTactic
import Derived.BigQuiet
set_option linter.unusedVariables false
set_option linter.unusedSimpArgs false
namespace Go.Proofs.YtghfdapfnoeanaaGreatDoor
open Go.Shelf
namespace Sp
def shelfIndexRen:Go.Shelf.Ren:=⟨fun | 143=>201 | 217=>217 | 219=>205 | 224=>219 | 225=>218 | 266=>226 | 267=>220 | 314=>227 | n=>n,fun | 3=>3 | 4=>4 | 5=>5 | 9=>9 | 46=>127 | 51=>255 | 146=>256 | n=>n,fun | 1=>0 | n=>n⟩
theorem shelfIndex:Go.Proofs.Lays.n143 Tryz.prog shelfIndexRen:={
 mixed:=by kernel_rfl
 f143:=Tryz.func201.trans (congrArg some (by kernel_rfl))
 f217:=Tryz.func217.trans (congrArg some (by kernel_rfl))
 f219:=Tryz.func205.trans (congrArg some (by kernel_rfl))
 f224:=Tryz.func219.trans (congrArg some (by kernel_rfl))
 f225:=Tryz.func218.trans (congrArg some (by kernel_rfl))
 f266:=Tryz.func226.trans (congrArg some (by kernel_rfl))
 f267:=Tryz.func220.trans (congrArg some (by kernel_rfl))
 f314:=Tryz.func227.trans (congrArg some (by kernel_rfl))
 t3:=Tryz.underlying3
 a3:=Tryz.isAgg3
 z3:=Tryz.sizeOf3
 v3:=Tryz.zeroValue3
 t4:=Tryz.underlying4
 a4:=Tryz.isAgg4
 z4:=Tryz.sizeOf4
 v4:=Tryz.zeroValue4
 t5:=Tryz.underlying5
 a5:=Tryz.isAgg5
 z5:=Tryz.sizeOf5
 v5:=Tryz.zeroValue5
 t9:=Tryz.underlying9
 a9:=Tryz.isAgg9
 z9:=Tryz.sizeOf9
 v9:=Tryz.zeroValue9
 t46:=Tryz.underlying127
 a46:=Tryz.isAgg127
 z46:=Tryz.sizeOf127
 v46:=Tryz.zeroValue127
 t51:=Tryz.underlying255
 a51:=Tryz.isAgg255
 z51:=Tryz.sizeOf255
 v51:=Tryz.zeroValue255
 t146:=Tryz.underlying256
 a146:=Tryz.isAgg256
 z146:=Tryz.sizeOf256
 v146:=Tryz.zeroValue256
 g1:=by kernel_rfl }
def shelfIndexLRen:Go.Shelf.Ren:=⟨fun | 217=>217 | 219=>205 | 224=>219 | 225=>218 | 266=>226 | 267=>220 | 314=>227 | n=>n,fun | 3=>3 | 4=>4 | 5=>5 | 9=>9 | 46=>127 | 51=>255 | 146=>256 | n=>n,fun | 1=>0 | n=>n⟩
theorem shelfIndexL:Go.Proofs.Lays.n219 Tryz.prog shelfIndexLRen:={
 mixed:=by kernel_rfl
 f217:=Tryz.func217.trans (congrArg some (by kernel_rfl))
 f219:=Tryz.func205.trans (congrArg some (by kernel_rfl))
 f224:=Tryz.func219.trans (congrArg some (by kernel_rfl))
 f225:=Tryz.func218.trans (congrArg some (by kernel_rfl))
 f266:=Tryz.func226.trans (congrArg some (by kernel_rfl))
 f267:=Tryz.func220.trans (congrArg some (by kernel_rfl))
 f314:=Tryz.func227.trans (congrArg some (by kernel_rfl))
 t3:=Tryz.underlying3
 a3:=Tryz.isAgg3
 z3:=Tryz.sizeOf3
 v3:=Tryz.zeroValue3
 t4:=Tryz.underlying4
 a4:=Tryz.isAgg4
 z4:=Tryz.sizeOf4
 v4:=Tryz.zeroValue4
 t5:=Tryz.underlying5
 a5:=Tryz.isAgg5
 z5:=Tryz.sizeOf5
 v5:=Tryz.zeroValue5
 t9:=Tryz.underlying9
 a9:=Tryz.isAgg9
 z9:=Tryz.sizeOf9
 v9:=Tryz.zeroValue9
 t46:=Tryz.underlying127
 a46:=Tryz.isAgg127
 z46:=Tryz.sizeOf127
 v46:=Tryz.zeroValue127
 t51:=Tryz.underlying255
 a51:=Tryz.isAgg255
 z51:=Tryz.sizeOf255
 v51:=Tryz.zeroValue255
 t146:=Tryz.underlying256
 a146:=Tryz.isAgg256
 z146:=Tryz.sizeOf256
 v146:=Tryz.zeroValue256
 g1:=by kernel_rfl }
open Go.RowKit Go.Lib in
theorem index_any (s:ByteArray) (c:UInt8) (w:World):Calls Tryz.prog 201 #[.string s,.string ⟨#[c]⟩] w fun e w'=>e = .returned (.int .i64 (Lib.indexByte s.data.toList c)) ∧ w' = w:=Any.strings_Index_one shelfIndex s c w
open Go.RowKit Go.Lib in
theorem indexL_any (s:ByteArray) (c:UInt8) (w:World):Calls Tryz.prog 205 #[.string s,.string ⟨#[c]⟩] w fun e w'=>e = .returned (.int .i64 (Lib.indexByte s.data.toList c)) ∧ w' = w:=Any.stringslite_Index_one shelfIndexL s c w
open Go.RowKit in
set_option maxHeartbeats 1000000 in
theorem cutL_any (s:ByteArray) (c:UInt8) (w:World) (hs:s.size ≤ 1000000) :
  Calls Tryz.prog 194 #[.string s,.string ⟨#[c]⟩] w fun e w'=>e = .returned (.tuple #[.string ⟨(Lib.cut s.data.toList [c]).1.toArray⟩,.string ⟨(Lib.cut s.data.toList [c]).2.1.toArray⟩,.bool (Lib.cut s.data.toList [c]).2.2]) ∧ Q w w':=by
 have hI:=fun w=>indexL_any s c w
 have e0:Lib.indexB s ⟨#[c]⟩ = Lib.indexByte s.data.toList c:=Lib.index_one _ _
 rw [← e0] at hI
 rcases Lib.indexB_cases s ⟨#[c]⟩ with hix | ⟨i,hix,hroom⟩
 ·obtain ⟨e1,e2,e3⟩:=Lib.cutB_miss s ⟨#[c]⟩ hix
  have e1:(⟨(Lib.cut s.data.toList [c]).1.toArray⟩:ByteArray) = s:=e1
  have e2:(⟨(Lib.cut s.data.toList [c]).2.1.toArray⟩:ByteArray) = ByteArray.empty:=e2
  have e3:(Lib.cut s.data.toList [c]).2.2 = false:=e3
  rw [hix] at hI
  have HI:=Lib.hid hI
  have HE:=Lib.hid (And.intro e1 (And.intro e2 e3))
  clear hI e0 hix e1 e2 e3
  go_enter Tryz.func194,Tryz.ntmps194
  go_wp2_with fail
  refine (HI.out _).mono ?_
  rintro e w1 ⟨rfl,rfl⟩
  go_wp2_with fail
  go_ret3
  rw [HE.out.1,HE.out.2.1,HE.out.2.2]
  exact ⟨rfl,Q.refl _⟩
 ·obtain ⟨e1,e2,e3⟩:=Lib.cutB_hit s ⟨#[c]⟩ i hix
  rw [hix] at hI
  have hroom:i + 1 ≤ s.size:=hroom
  have e1:(⟨(Lib.cut s.data.toList [c]).1.toArray⟩:ByteArray) = s.extract 0 i:=e1
  have e2:(⟨(Lib.cut s.data.toList [c]).2.1.toArray⟩:ByteArray) = s.extract (i + 1) s.size:=e2
  have e3:(Lib.cut s.data.toList [c]).2.2 = true:=e3
  have HI:=Lib.hid hI
  have HE:=Lib.hid (And.intro e1 (And.intro e2 e3))
  clear hI e0 hix e1 e2 e3
  have c1:(0:Int) ≤ (i:Int):=by omega
  have c2:(i:Int) ≤ (s.size:Int):=by omega
  have c4:(i:Int) + 1 ≤ (s.size:Int):=by omega
  go_enter Tryz.func194,Tryz.ntmps194
  go_wp2_with fail
  refine (HI.out _).mono ?_
  rintro e w1 ⟨rfl,rfl⟩
  go_wp2_with fail
  go_region
  go_wp2_with fail
  go_ret3
  rw [HE.out.1,HE.out.2.1,HE.out.2.2]
  exact ⟨rfl,(Q.refl _).drew⟩
open Go.RowKit in
theorem cut_any (s:ByteArray) (c:UInt8) (w:World) (hs:s.size ≤ 1000000) :
  Calls Tryz.prog 181 #[.string s,.string ⟨#[c]⟩] w fun e w'=>e = .returned (.tuple #[.string ⟨(Lib.cut s.data.toList [c]).1.toArray⟩,.string ⟨(Lib.cut s.data.toList [c]).2.1.toArray⟩,.bool (Lib.cut s.data.toList [c]).2.2]) ∧ Q w w':=by
 have hC:=fun w=>cutL_any s c w hs
 generalize Lib.cut s.data.toList [c] = R at *
 obtain ⟨r1,r2,r3⟩:=R
 go_enter Tryz.func181,Tryz.ntmps181
 go_wp2_with fail
 refine (hC _).mono ?_
 rintro e w1 ⟨rfl,hq⟩
 go_wp2_with fail
 go_ret3
 exact ⟨rfl,hq⟩
open Go.RowKit in
theorem split_any (s:ByteArray) (c:UInt8) (w:World) (hs:s.size ≤ 1000000) :
  Calls Tryz.prog 182 #[.string s,.string ⟨#[c]⟩] w fun e w'=>∃ v,e = .returned v ∧ SLst w' v (Lib.splitB ⟨#[c]⟩ 0 (Lib.countB s ⟨#[c]⟩) s) ∧ Q w w':=by
 have hle:=Lib.countB_le ⟨#[c]⟩ (Nat.le_refl 1) s.size s (Nat.le_refl _)
 have hlen:=Lib.splitB_all ⟨#[c]⟩ (Nat.le_refl 1) 0 _ s rfl
 have hC:Calls Tryz.prog 185 #[.string s,.string ⟨#[c]⟩] w fun e w'=>e = .returned (.int .i64 (Lib.countB s ⟨#[c]⟩)) ∧ w' = w:=by
  refine (count_any s c w).mono ?_
  rintro e w' ⟨rfl,rfl⟩
  refine ⟨?_,rfl⟩
  show _ = Ending.returned (Value.int .i64 ((Lib.count s.data.toList [c]:Nat):Int))
  rw [Lib.count_one];rfl
 have cc:=Any.strings_genSplit_core shelfGenSplit (by kernel_rfl) s ⟨#[c]⟩ 0 (-1) (Lib.countB s ⟨#[c]⟩ + 1) w (by omega) (Nat.le_refl 1) (Nat.zero_le _)
  (fun x cs hx=>by
   refine (index_any x c _).mono ?_
   rintro e w' ⟨rfl,rfl⟩
   refine ⟨?_,rfl⟩
   rw [show Lib.indexB x ⟨#[c]⟩ = Lib.indexByte x.data.toList c from Lib.index_one _ _]) hC (by decide) (by decide) (by rw [if_pos (by decide)];omega)
 rw [Nat.add_sub_cancel,hlen] at cc
 have e2:Lib.cellsOf (Lib.splitB ⟨#[c]⟩ 0 (Lib.countB s ⟨#[c]⟩) s) (Lib.countB s ⟨#[c]⟩ + 1) = ((Lib.splitB ⟨#[c]⟩ 0 (Lib.countB s ⟨#[c]⟩) s).map Value.string).toArray:=by rw [← hlen];exact Lib.cellsOf_full _
 rw [e2] at cc
 generalize Lib.splitB ⟨#[c]⟩ 0 (Lib.countB s ⟨#[c]⟩) s = L at *
 generalize Lib.countB s ⟨#[c]⟩ = N at *
 have CC:=Lib.hid cc
 have HLN:=Lib.hid hlen
 clear cc hC e2 hlen
 go_enter Tryz.func182,Tryz.ntmps182
 go_wp2_with fail
 refine CC.out.mono ?_
 rintro e w1 ⟨rfl,rfl⟩
 go_wp2_with fail
 go_ret
 exact ⟨_,rfl,GLst.made Value.string 9 w L (N + 1) HLN.out (by unfold maxLen;omega),(Q.refl _).alloc _⟩
end Sp
end Go.Proofs.YtghfdapfnoeanaaGreatDoor
namespace Go.Proofs.YtghfdapfnoeanaaGreatDoor
open Go.RowKit
namespace Pg
open Pt Um
theorem elG:Sg.El 209 170:=⟨by kernel_rfl,Tryz.underlying170⟩
abbrev OwnG (w:World) (B:Nat) (v:Value) (l:List (Int × Int)):Prop:=Sg.OwnE 209 w B v l
def tokQ:Bool → Bool → List Int → Option (List (Int × Int))
 | q,p,[]=>if (q != p) = true then none else some []
 | q,p,c :: r =>
  if c = 39 then (if p = true then (tokQ q false r).map ((0,39) :: ·) else tokQ q true r)
  else if (q != p) = true then (tokQ true false r).map ((0,c) :: ·)
  else (tokQ false false r).map ((kindC c,c) :: ·)
theorem tokQ_cons (q p:Bool) (c:Int) (r:List Int):tokQ q p (c :: r) = if c = 39 then (if p = true then (tokQ q false r).map ((0,39) :: ·) else tokQ q true r) else if (q != p) = true then (tokQ true false r).map ((0,c) :: ·) else (tokQ false false r).map ((kindC c,c) :: ·):=rfl
theorem tok_q (cs:List Int):∀ q p l,tokS q p cs = some l → tokQ q p cs = some l:=by
 induction cs with
 | nil=>intro q p l h;exact h
 | cons c r ih =>
  intro q p l h
  rw [tokS_cons] at h
  rw [tokQ_cons]
  split at h
  ·rename_i h1
   rw [if_pos h1]
   split at h
   ·rename_i h2
    rw [if_pos h2]
    obtain ⟨m,hm,rfl⟩:=Option.map_eq_some_iff.1 h
    rw [ih _ _ _ hm];rfl
   ·rename_i h2
    rw [if_neg h2]
    exact ih _ _ _ h
  ·rename_i h1
   rw [if_neg h1]
   split at h
   ·rename_i h2
    rw [if_pos h2]
    obtain ⟨m,hm,rfl⟩:=Option.map_eq_some_iff.1 h
    rw [ih _ _ _ hm];rfl
   ·rename_i h2
    rw [if_neg h2]
    split at h
    ·cases h
    ·obtain ⟨m,hm,rfl⟩:=Option.map_eq_some_iff.1 h
     rw [ih _ _ _ hm];rfl
theorem tokQ_turn (q:Bool) (r:List Int) (h:r = [] ∨ r.getD 0 0 ≠ 39):tokQ q true r = tokQ (!q) false r:=by
 cases r with
 | nil=>cases q <;> rfl
 | cons c r =>
  have hc:c ≠ 39:=by
   rcases h with h | h
   ·cases h
   ·simpa using h
  rw [tokQ_cons,tokQ_cons,if_neg hc,if_neg hc]
  cases q <;> rfl
theorem drop_at (cs:List Int) (k:Nat) (hk:k < cs.length):cs.drop k = cs.getD k 0 :: cs.drop (k + 1):=by
 rw [List.getD_eq_getElem?_getD,List.getElem?_eq_getElem hk]
 exact List.drop_eq_getElem_cons hk
def Far (cs:List Int) (k:Nat) (q:Bool) (o:List (Int × Int)):Prop:=(tokQ q false (cs.drop k)).map (o ++ ·) = tokQ false false cs ∧ o.length ≤ k
theorem Far.start (cs:List Int):Far cs 0 false []:=⟨by simp,by simp⟩
theorem Far.two {cs:List Int} {k:Nat} {q:Bool} {o:List (Int × Int)} (h:Far cs k q o) (hk:k + 1 < cs.length) (h1:cs.getD k 0 = 39) (h2:cs.getD (k + 1) 0 = 39):Far cs (k + 2) q (o ++ [(0,39)]):=by
 obtain ⟨h,hl⟩:=h
 rw [drop_at cs k (by omega),h1,drop_at cs (k + 1) hk,h2,tokQ_cons,if_pos rfl,if_neg (by decide),tokQ_cons,if_pos rfl,if_pos rfl,Option.map_map] at h
 refine ⟨?_,by simp;omega⟩
 rw [← h]
 congr 1
 funext x;simp
theorem Far.turn {cs:List Int} {k:Nat} {q:Bool} {o:List (Int × Int)} (h:Far cs k q o) (hk:k < cs.length) (h1:cs.getD k 0 = 39) (h2:¬ (k + 1 < cs.length ∧ cs.getD (k + 1) 0 = 39)):Far cs (k + 1) (!q) o:=by
 obtain ⟨h,hl⟩:=h
 rw [drop_at cs k hk,h1,tokQ_cons,if_pos rfl,if_neg (by decide)] at h
 refine ⟨?_,by omega⟩
 rw [← h,tokQ_turn q]
 by_cases hn:k + 1 < cs.length
 ·right
  rw [drop_at cs (k + 1) hn]
  simpa using fun e=>h2 ⟨hn,by simpa using e⟩
 ·left
  exact List.drop_eq_nil_of_le (by omega)
theorem Far.in {cs:List Int} {k:Nat} {o:List (Int × Int)} (h:Far cs k true o) (hk:k < cs.length) (h1:cs.getD k 0 ≠ 39):Far cs (k + 1) true (o ++ [(0,cs.getD k 0)]):=by
 obtain ⟨h,hl⟩:=h
 rw [drop_at cs k hk,tokQ_cons,if_neg h1,if_pos (by decide),Option.map_map] at h
 refine ⟨?_,by simp;omega⟩
 rw [← h]
 congr 1
 funext x;simp
theorem Far.out {cs:List Int} {k:Nat} {o:List (Int × Int)} (h:Far cs k false o) (hk:k < cs.length) (h1:cs.getD k 0 ≠ 39):Far cs (k + 1) false (o ++ [(kindC (cs.getD k 0),cs.getD k 0)]):=by
 obtain ⟨h,hl⟩:=h
 rw [drop_at cs k hk,tokQ_cons,if_neg h1,if_neg (by decide),Option.map_map] at h
 refine ⟨?_,by simp;omega⟩
 rw [← h]
 congr 1
 funext x;simp
theorem Far.fin {cs:List Int} {q:Bool} {o:List (Int × Int)} (h:Far cs cs.length q o):tokQ false false cs = if q = true then none else some o:=by
 obtain ⟨h,hl⟩:=h
 rw [List.drop_eq_nil_of_le (Nat.le_refl _)] at h
 rw [← h]
 cases q <;> simp [tokQ]
set_option maxHeartbeats 4000000 in
theorem signs_any (s:ByteArray) (w:World) (hs:s.size ≤ 1000000) (hok:okL s.data.toList = true) :
  Calls Tryz.prog 123 #[.string s] w fun e w'=>Q w w' ∧
   ((∃ v l,tokQ false false (allL s.data.toList) = some l ∧ e = .returned v ∧ OwnG w' w.heap.size v l ∧ l.length ≤ s.size) ∨ (tokQ false false (allL s.data.toList) = none ∧ e = .panicked form)):=by
 have hva:=fun w=>valid_any s w (by unfold maxLen;omega)
 rw [hok] at hva
 have hal:=fun w=>all_any s w (by omega)
 have hml:=marks_length s.data.toList
 rw [size_list] at hml
 have hcl:(allL s.data.toList).length ≤ s.size:=by unfold allL;simp;omega
 clear hml hok
 generalize allL s.data.toList = cs at *
 obtain ⟨n,hn⟩:∃ n,n = cs.length:=⟨_,rfl⟩
 have HN:=Lib.hid hn
 rw [← hn] at hcl
 obtain ⟨R,hR⟩:∃ R,R = tokQ false false cs:=⟨_,rfl⟩
 have HR:=Lib.hid hR
 rw [← hR]
 clear hn hR
 go_enter Tryz.func123,Tryz.ntmps123
 go_wp2_with fail
 refine (hva _).mono ?_
 rintro e w1 ⟨rfl,hq1⟩
 go_wp2_with fail
 refine (need_yes _).mono ?_
 rintro e w1' ⟨rfl,rfl⟩
 go_wp2_with fail
 refine (hal _).mono ?_
 rintro e w2 ⟨v,rfl,hv,hq2'⟩
 have hq2:=hq1.trans hq2'
 clear hq1 hq2'
 have HV:=Lib.hid hv.lst
 obtain ⟨a,cp,rfl,_,_⟩:=hv.lst.form0 HN.out.symm
 clear hv hal hva
 go_wp2_with fail
 go_loopw [3,5,6] (fun u q i wr=>∃ (k:Nat) (b:Bool) (o:List (Int × Int)),i = .int .i64 k ∧ q = .bool b ∧ k ≤ n ∧ OwnG wr w2.heap.size u o ∧ Far cs k b o ∧ Q w2 wr) (fun _ _ i _=>n - (intOf i).toNat)
 case atStart=>exact ⟨0,false,[],rfl,rfl,by omega,Sg.OwnE.nil _ _ _,Far.start cs,Q.refl _⟩
 case round =>
  obtain ⟨k,b,o,rfl,rfl,hk,ho,hf,hq⟩:=hrel
  have hqs:=hq.le
  have HF:=Lib.hid hf
  have hol:o.length < 1073741824:=by have:=hf.2;omega
  clear hf
  by_cases hlt:k < n
  ·have hlti:(k:Int) < (n:Int):=by omega
   have hkl:k < cs.length:=by have:=HN.out;omega
   obtain ⟨g,off,cap,hvv,hg,hnc,hcm,hca⟩:=HV.out.cellOf HN.out.symm hlt
   cases hvv
   have hcell:∀ j,j < n → wr.cell? ⟨g,off + j,none⟩ = some (.int .i64 (cs.getD j 0)):=by
    intro j hj
    obtain ⟨g',off',cap',hvv',hg',_,_,hcj⟩:=HV.out.cellOf HN.out.symm hj
    cases hvv'
    exact (World.cell?_of_block (w:=w2) (hq.block hg')).trans hcj
   have c1:=hcell k hlt
   have HCE:=Lib.hid hcell
   clear hca hcell
   have F1:=fun h1 h2 h3=>HF.out.two h1 h2 h3
   have F2:=fun h1 h2=>HF.out.turn hkl h1 h2
   obtain ⟨c,hc⟩:∃ c,c = cs.getD k 0:=⟨_,rfl⟩
   rw [← hc] at c1 F1 F2
   have HC:=Lib.hid hc
   clear hc
   by_cases h39:c = 39
   ·subst h39
    by_cases hn1:k + 1 < n
    ·have hn1i:(k:Int) + 1 < (n:Int):=by omega
     have c2:=HCE.out (k + 1) hn1
     obtain ⟨d,hd⟩:∃ d,d = cs.getD (k + 1) 0:=⟨_,rfl⟩
     rw [← hd] at c2 F1 F2
     have HD:=Lib.hid hd
     clear hd
     by_cases hd9:d = 39
     ·subst hd9
      have HF2:=Lib.hid (F1 (by have:=HN.out;omega) rfl rfl)
      clear F1 F2
      go_wp2_with (at_builtin;refine Sg.push elG ho rfl _ _ rfl 0 39 (by rfl) (by rfl) hol hqs ?_)
      intro v' w4 ho4 hg4 hat4
      have hq4:=hq.grown hg4 (fun j h=>(ho.lt j h).1)
      go_wp2_with fail
      go_roundw
      case rel=>exact ⟨k + 2,b,o ++ [(0,39)],by go_num,rfl,by omega,ho4,HF2.out,hq4⟩
      case measure=>simp [intOf];omega
     ·have hdb:(d == 39) = false:=beq_eq_false_iff_ne.2 hd9
      have HF2:=Lib.hid (F2 rfl (fun h=>hd9 h.2))
      clear F1 F2
      go_wp2_with fail
      go_roundw
      case rel=>exact ⟨k + 1,!b,o,by go_num,rfl,by omega,ho,HF2.out,hq⟩
      case measure=>simp [intOf];omega
    ·have hn1i:¬ (k:Int) + 1 < (n:Int):=by omega
     have HF2:=Lib.hid (F2 rfl (fun h=>hn1 (by have:=HN.out;omega)))
     clear F1 F2
     go_wp2_with fail
     go_roundw
     case rel=>exact ⟨k + 1,!b,o,by go_num,rfl,by omega,ho,HF2.out,hq⟩
     case measure=>simp [intOf];omega
   ·have hcb:(c == 39) = false:=beq_eq_false_iff_ne.2 h39
    clear F1 F2
    cases b
    ·have G2:=HF.out.out hkl (by rw [← HC.out];exact h39)
     have K1:=fun w=>meaning_any c w
     rw [← HC.out] at G2
     obtain ⟨kc,hkc⟩:∃ kc,kc = kindC c:=⟨_,rfl⟩
     rw [← hkc] at G2 K1
     have HK1:=Lib.hid K1
     have HF2:=Lib.hid G2
     clear hkc K1 G2
     go_wp2_with fail
     refine (HK1.out _).mono ?_
     rintro e w3 ⟨rfl,rfl⟩
     go_wp2_with (at_builtin;refine Sg.push elG ho rfl _ _ rfl kc c (by rfl) (by rfl) hol hqs ?_)
     intro v' w4 ho4 hg4 hat4
     have hq4:=hq.grown hg4 (fun j h=>(ho.lt j h).1)
     go_wp2_with fail
     go_roundw
     case rel=>exact ⟨k + 1,false,o ++ [(kc,c)],by go_num,rfl,by omega,ho4,HF2.out,hq4⟩
     case measure=>simp [intOf];omega
    ·have G2:=HF.out.in hkl (by rw [← HC.out];exact h39)
     rw [← HC.out] at G2
     have HF2:=Lib.hid G2
     clear G2
     go_wp2_with (at_builtin;refine Sg.push elG ho rfl _ _ rfl 0 c (by rfl) (by rfl) hol hqs ?_)
     intro v' w4 ho4 hg4 hat4
     have hq4:=hq.grown hg4 (fun j h=>(ho.lt j h).1)
     go_wp2_with fail
     go_roundw
     case rel=>exact ⟨k + 1,true,o ++ [(0,c)],by go_num,rfl,by omega,ho4,HF2.out,hq4⟩
     case measure=>simp [intOf];omega
  ·have hke:k = cs.length:=by have:=HN.out;omega
   have hnlt:¬ (k:Int) < (n:Int):=by omega
   have hfin:=HF.out
   rw [hke] at hfin
   have HRF:=Lib.hid (HR.out.trans hfin.fin)
   have hole:o.length ≤ s.size:=by have:=HF.out.2;omega
   clear hfin hke
   cases b
   ·go_wp2_with fail
    refine (need_yes _).mono ?_
    rintro e w3 ⟨rfl,rfl⟩
    go_wp2_with fail
    go_ret
    exact ⟨hq2.trans hq,.inl ⟨_,_,HRF.out,rfl,ho.mono hq2.le,hole⟩⟩
   ·go_wp2_with fail
    refine (need_no _).mono ?_
    rintro e w3 ⟨rfl,rfl⟩
    go_wp2_with fail
    exact ⟨rfl,hq2.trans hq,.inr ⟨HRF.out,rfl⟩⟩
end Pg
end Go.Proofs.YtghfdapfnoeanaaGreatDoor
namespace Go.Proofs.YtghfdapfnoeanaaGreatDoor
open Go.RowKit
namespace Pr
open Pt Um
def inS (c:Int) (l:List UInt8):Bool:=l.any fun b=>c == ((b.toNat:Nat):Int)
theorem inS_at {c:Int} {s:ByteArray} {k:Nat} (hk:k < s.size) (h:c = (((s[k]'hk).toNat:Nat):Int)):inS c s.data.toList = true:=by
 unfold inS
 rw [List.any_eq_true]
 refine ⟨s[k],?_,by rw [h];simp⟩
 exact List.getElem_mem (l:=s.data.toList) (n:=k) (by rw [size_list];exact hk)
theorem inS_no {c:Int} {s:ByteArray} (h:∀ k (hk:k < s.size),c ≠ (((s[k]'hk).toNat:Nat):Int)):inS c s.data.toList = false:=by
 unfold inS
 rw [List.any_eq_false]
 intro b hb
 obtain ⟨k,hk,he⟩:=List.mem_iff_getElem.1 hb
 rw [size_list] at hk
 have:=h k hk
 intro hb
 rw [beq_iff_eq] at hb
 refine this ?_
 rw [hb,← he];rfl
set_option maxHeartbeats 800000 in
theorem in_any (c:Int) (s:ByteArray) (w:World) (hs:s.size ≤ 1000000) :
  Calls Tryz.prog 192 #[.int .i64 c,.string s] w fun e w'=>e = .returned (.bool (inS c s.data.toList)) ∧ w = w':=by
 have HA:=Lib.hid (fun k hk=>@inS_at c s k hk)
 have HN:=Lib.hid (@inS_no c s)
 generalize inS c s.data.toList = r at *
 go_enter Tryz.func192,Tryz.ntmps192
 go_wp2_with fail
 go_loopw [5] (fun i wr=>∃ k:Nat,i = .int .i64 k ∧ k ≤ s.size ∧ (∀ j (hj:j < s.size),j < k → c ≠ (((s[j]'hj).toNat:Nat):Int)) ∧ w = wr) (fun i _=>s.size - (intOf i).toNat)
 case atStart=>exact ⟨0,rfl,by omega,fun j _ h=>absurd h (Nat.not_lt_zero j),rfl⟩
 case round =>
  obtain ⟨k,rfl,hk,hno,rfl⟩:=hrel
  have HNO:=Lib.hid hno
  clear hno
  by_cases hlt:k < s.size
  ·have hlti:(k:Int) < (s.size:Int):=by omega
   have hub:=Ur.u8b (s[k]'hlt)
   by_cases hc:c = (((s[k]'hlt).toNat:Nat):Int)
   ·have HF:=Lib.hid (HA.out k hlt hc)
    have hcb:(c == (((s[k]'hlt).toNat:Nat):Int)) = true:=by rw [hc];simp
    have HC:=Lib.hid hc
    clear hc
    go_wp2_with fail
    go_ret
    rw [HF.out]
    exact ⟨rfl,rfl⟩
   ·have hcb:(c == (((s[k]'hlt).toNat:Nat):Int)) = false:=beq_eq_false_iff_ne.2 hc
    have HC:=Lib.hid hc
    clear hc
    go_wp2_with fail
    refine ⟨⟨k + 1,by go_num,by omega,fun j hj hjk=>?_,trivial⟩,by simp [intOf];omega⟩
    by_cases h:j = k
    ·subst h;exact HC.out
    ·exact HNO.out j hj (by omega)
  ·have HF:=Lib.hid (HN.out fun j hj=>HNO.out j hj (by omega))
   go_wp2_with fail
   go_ret
   rw [HF.out]
   exact ⟨rfl,rfl⟩
theorem in_four (c:Int):inS c [35,48,44,46] = (c == 35 || (c == 48 || (c == 44 || c == 46))):=by simp [inS]
theorem in_bad (c:Int):inS c [49,50,51,52,53,54,55,56,57,64,42,43,69] = true ↔ ((49 ≤ c ∧ c ≤ 57) ∨ c = 64 ∨ c = 42 ∨ c = 43 ∨ c = 69):=by
 simp [inS];omega
set_option maxHeartbeats 800000 in
theorem kind_any (c:Int) (w:World) :
  Calls Tryz.prog 174 #[.int .i64 c] w fun e w'=>e = .returned (.int .i64 (kindC c)) ∧ w = w':=by
 have hi4:=fun w=>in_any c ⟨#[35,48,44,46]⟩ w (by decide)
 have hi6:=fun w=>in_any c ⟨#[49,50,51,52,53,54,55,56,57,64,42,43,69]⟩ w (by decide)
 have e4:inS c (⟨#[35,48,44,46]⟩:ByteArray).data.toList = decide (c = 35 ∨ c = 48 ∨ c = 44 ∨ c = 46):=by
  rw [show (⟨#[35,48,44,46]⟩:ByteArray).data.toList = [35,48,44,46] from rfl,in_four,Bool.eq_iff_iff];simp
 have e6:inS c (⟨#[49,50,51,52,53,54,55,56,57,64,42,43,69]⟩:ByteArray).data.toList = decide ((49 ≤ c ∧ c ≤ 57) ∨ c = 64 ∨ c = 42 ∨ c = 43 ∨ c = 69):=by
  rw [show (⟨#[49,50,51,52,53,54,55,56,57,64,42,43,69]⟩:ByteArray).data.toList = [49,50,51,52,53,54,55,56,57,64,42,43,69] from rfl,Bool.eq_iff_iff,in_bad];simp
 rw [e4] at hi4
 rw [e6] at hi6
 obtain ⟨K,hK⟩:∃ K,K = kindC c:=⟨_,rfl⟩
 rw [← hK]
 unfold kindC at hK
 have main:∀ (b4 b6:Bool),decide (c = 35 ∨ c = 48 ∨ c = 44 ∨ c = 46) = b4 → decide ((49 ≤ c ∧ c ≤ 57) ∨ c = 64 ∨ c = 42 ∨ c = 43 ∨ c = 69) = b6 →
   Calls Tryz.prog 174 #[.int .i64 c] w fun e w'=>e = .returned (.int .i64 K) ∧ w = w':=by
  intro b4 b6 h4 h6
  rw [h4] at hi4
  rw [h6] at hi6
  have HI4:=Lib.hid hi4
  have HI6:=Lib.hid hi6
  clear hi4 hi6 e4 e6
  by_cases h1:c = 164
  ·have HF:Hid (K = 1):=Lib.hid (by rw [hK,if_pos h1])
   subst h1
   clear hK h4 h6
   go_enter Tryz.func174,Tryz.ntmps174
   go_wp2_with fail
   go_ret
   rw [HF.out]
   exact ⟨rfl,rfl⟩
  ·rw [if_neg h1] at hK
   by_cases h2:c = 37
   ·have HF:Hid (K = 2):=Lib.hid (by rw [hK,if_pos h2])
    subst h2
    clear hK h4 h6
    go_enter Tryz.func174,Tryz.ntmps174
    go_wp2_with fail
    go_ret
    rw [HF.out]
    exact ⟨rfl,rfl⟩
   ·rw [if_neg h2] at hK
    by_cases h3:c = 45
    ·have HF:Hid (K = 3):=Lib.hid (by rw [hK,if_pos h3])
     subst h3
     clear hK h4 h6
     go_enter Tryz.func174,Tryz.ntmps174
     go_wp2_with fail
     go_ret
     rw [HF.out]
     exact ⟨rfl,rfl⟩
    ·rw [if_neg h3] at hK
     have g1:(c == 164) = false:=beq_eq_false_iff_ne.2 h1
     have g2:(c == 37) = false:=beq_eq_false_iff_ne.2 h2
     have g3:(c == 45) = false:=beq_eq_false_iff_ne.2 h3
     cases b4
     ·rw [if_neg (of_decide_eq_false h4)] at hK
      by_cases h5:c = 59
      ·have HF:Hid (K = 5):=Lib.hid (by rw [hK,if_pos h5])
       subst h5
       clear hK h4 h6
       go_enter Tryz.func174,Tryz.ntmps174
       go_wp2_with fail
       refine (HI4.out _).mono ?_
       rintro e w1 ⟨rfl,rfl⟩
       go_wp2_with fail
       go_ret
       rw [HF.out]
       exact ⟨rfl,rfl⟩
      ·rw [if_neg h5] at hK
       have g5:(c == 59) = false:=beq_eq_false_iff_ne.2 h5
       cases b6
       ·have HF:Hid (K = 0):=Lib.hid (by rw [hK,if_neg (of_decide_eq_false h6)])
        clear hK h4 h6 h1 h2 h3 h5
        go_enter Tryz.func174,Tryz.ntmps174
        go_wp2_with fail
        refine (HI4.out _).mono ?_
        rintro e w1 ⟨rfl,rfl⟩
        go_wp2_with fail
        refine (HI6.out _).mono ?_
        rintro e w1 ⟨rfl,rfl⟩
        go_wp2_with fail
        go_ret
        rw [HF.out]
        exact ⟨rfl,rfl⟩
       ·have HF:Hid (K = 6):=Lib.hid (by rw [hK,if_pos (of_decide_eq_true h6)])
        clear hK h4 h6 h1 h2 h3 h5
        go_enter Tryz.func174,Tryz.ntmps174
        go_wp2_with fail
        refine (HI4.out _).mono ?_
        rintro e w1 ⟨rfl,rfl⟩
        go_wp2_with fail
        refine (HI6.out _).mono ?_
        rintro e w1 ⟨rfl,rfl⟩
        go_wp2_with fail
        go_ret
        rw [HF.out]
        exact ⟨rfl,rfl⟩
     ·have HF:Hid (K = 4):=Lib.hid (by rw [hK,if_pos (of_decide_eq_true h4)])
      clear hK h4 h6 h1 h2 h3
      go_enter Tryz.func174,Tryz.ntmps174
      go_wp2_with fail
      refine (HI4.out _).mono ?_
      rintro e w1 ⟨rfl,rfl⟩
      go_wp2_with fail
      go_ret
      rw [HF.out]
      exact ⟨rfl,rfl⟩
 exact main _ _ rfl rfl
end Pr
end Go.Proofs.YtghfdapfnoeanaaGreatDoor
namespace Go.Proofs.YtghfdapfnoeanaaGreatDoor
open Go.RowKit
namespace Sr
open Sm Um
theorem nm_at:∀ i,i < 20 → nz (nmL.getD i []) = zrs.getD i 0 ∧ (nmL.getD i [],zrs.getD i 0) ∈ tab:=by decide +kernel
theorem names_any (w:World) :
  Calls Tryz.prog 117 #[] w fun e w'=>∃ g,e = .returned (.slice (some ⟨g,0,none⟩) 20 20) ∧ g < w'.heap.size ∧ (∀ k,k < 20 → w'.cell? ⟨g,k,none⟩ = some (.string ⟨(nmL.getD k []).toArray⟩)) ∧ SLst w' (.slice (some ⟨g,0,none⟩) 20 20) nmB ∧ Q w w':=by
 have hl:=GLst.made Value.string 9 w nmB 20 rfl (by unfold maxLen;omega)
 have he:(nmB.map Value.string).toArray = #[.string ⟨(nmL.getD 0 []).toArray⟩,.string ⟨(nmL.getD 1 []).toArray⟩,.string ⟨(nmL.getD 2 []).toArray⟩,.string ⟨(nmL.getD 3 []).toArray⟩,.string ⟨(nmL.getD 4 []).toArray⟩,.string ⟨(nmL.getD 5 []).toArray⟩,.string ⟨(nmL.getD 6 []).toArray⟩,.string ⟨(nmL.getD 7 []).toArray⟩,.string ⟨(nmL.getD 8 []).toArray⟩,.string ⟨(nmL.getD 9 []).toArray⟩,.string ⟨(nmL.getD 10 []).toArray⟩,.string ⟨(nmL.getD 11 []).toArray⟩,.string ⟨(nmL.getD 12 []).toArray⟩,.string ⟨(nmL.getD 13 []).toArray⟩,.string ⟨(nmL.getD 14 []).toArray⟩,.string ⟨(nmL.getD 15 []).toArray⟩,.string ⟨(nmL.getD 16 []).toArray⟩,.string ⟨(nmL.getD 17 []).toArray⟩,.string ⟨(nmL.getD 18 []).toArray⟩,.string ⟨(nmL.getD 19 []).toArray⟩]:=rfl
 rw [he] at hl
 clear he
 have hc:∀ k,k < 20 → ∀ w',SLst w' (.slice (some ⟨w.heap.size,0,none⟩) 20 20) nmB → w'.cell? ⟨w.heap.size,k,none⟩ = some (.string ⟨(nmL.getD k []).toArray⟩):=by
  intro k hk w' h
  obtain ⟨g,off,cap,hv,_,_,_,hc⟩:=GLst.cellOf h (n:=20) rfl (nmB_at k hk)
  cases hv
  rw [Nat.zero_add] at hc
  exact hc
 have HC:=Lib.hid hc
 have HL:=Lib.hid hl
 clear hc hl
 go_enter Tryz.func117,Tryz.ntmps117
 go_wp2_with fail
 go_ret
 exact ⟨_,rfl,by simp,fun k hk=>HC.out k hk _ HL.out,HL.out,(Q.refl _).alloc _⟩
theorem noughts_any (w:World) :
  Calls Tryz.prog 118 #[] w fun e w'=>∃ g,e = .returned (.slice (some ⟨g,0,none⟩) 20 20) ∧ (∀ k,k < 20 → w'.cell? ⟨g,k,none⟩ = some (.int .i64 (zrs.getD k 0))) ∧ Q w w':=by
 have hl:=Lst.made w zrs 20 rfl (by unfold maxLen;omega)
 have hc:∀ k,k < 20 → ∀ w',Lst w' (.slice (some ⟨w.heap.size,0,none⟩) 20 20) zrs → w'.cell? ⟨w.heap.size,k,none⟩ = some (.int .i64 (zrs.getD k 0)):=by
  intro k hk w' h
  obtain ⟨g,off,cap,hv,_,_,_,hc⟩:=h.cellOf (n:=20) rfl hk
  cases hv
  rw [Nat.zero_add] at hc
  exact hc
 have HC:=Lib.hid hc
 have HL:=Lib.hid hl
 clear hc hl
 go_enter Tryz.func118,Tryz.ntmps118
 go_wp2_with fail
 go_ret
 exact ⟨_,rfl,fun k hk=>HC.out k hk _ HL.out,(Q.refl _).alloc _⟩
set_option maxHeartbeats 1600000 in
theorem zero_any (x:ByteArray) (w:World) :
  Calls Tryz.prog 63 #[.string x] w fun e w'=>e = .returned (.int .i64 (nz x.data.toList)) ∧ Q w w':=by
 obtain ⟨y,hy⟩:∃ y,y = x.data.toList:=⟨_,rfl⟩
 have HY:=Lib.hid hy
 have hm1:∀ k:Nat,k < 20 → (⟨(nmL.getD k []).toArray⟩:ByteArray) = x → nz x.data.toList = zrs.getD k 0:=by
  intro k hk h
  rw [← h];exact (nm_at k hk).1
 have hm2:(∀ k:Nat,k < 20 → (⟨(nmL.getD k []).toArray⟩:ByteArray) ≠ x) → nz x.data.toList = -1:=by
  intro h
  rcases nz_cases x.data.toList with ⟨h1,_⟩ | h1
  ·exact h1
  ·exfalso
   have hmem:x.data.toList ∈ nmL:=List.mem_map.2 ⟨_,h1,rfl⟩
   obtain ⟨k,hk,he⟩:=List.mem_iff_getElem.1 hmem
   rw [nmL_len] at hk
   refine h k hk ?_
   rw [List.getD_eq_getElem?_getD,List.getElem?_eq_getElem (by rw [nmL_len];exact hk)]
   apply ba_ext
   show nmL[k] = _
   exact he
 have HM1:=Lib.hid hm1
 have HM2:=Lib.hid hm2
 clear hm1 hm2 hy
 generalize nz x.data.toList = z at *
 go_enter Tryz.func63,Tryz.ntmps63
 go_wp2_with fail
 refine (names_any _).mono ?_
 rintro e w1 ⟨g,rfl,hg,hcell,hsl,hq1⟩
 have HCE:=Lib.hid hcell
 clear hcell hsl
 go_wp2_with fail
 go_loopw [4] (fun i wr=>∃ k:Nat,i = .int .i64 k ∧ k ≤ 20 ∧ (∀ j:Nat,j < k → (⟨(nmL.getD j []).toArray⟩:ByteArray) ≠ x) ∧ Q w1 wr) (fun i _=>20 - (intOf i).toNat)
 case atStart=>exact ⟨0,rfl,by omega,fun j hj=>absurd hj (Nat.not_lt_zero j),Q.refl _⟩
 case round =>
  obtain ⟨k,rfl,hk,hno,hq⟩:=hrel
  by_cases hlt:k < 20
  ·have c1:wr.cell? ⟨g,k,none⟩ = some (.string ⟨(nmL.getD k []).toArray⟩):=(World.cell?_of_block (w:=w1) (hq.block hg)).trans (HCE.out k hlt)
   have hz1:=HM1.out k hlt
   have hn1:(⟨(nmL.getD k []).toArray⟩:ByteArray) ≠ x → ∀ j:Nat,j < k + 1 → (⟨(nmL.getD j []).toArray⟩:ByteArray) ≠ x:=by
    intro h j hj
    by_cases hjk:j = k
    ·subst hjk;exact h
    ·exact hno j (by omega)
   generalize (⟨(nmL.getD k []).toArray⟩:ByteArray) = p at c1 hz1 hn1
   have HN:=Lib.hid hn1
   clear hno hn1
   by_cases hp:p = x
   ·have HZ:=Lib.hid (hz1 hp)
    subst hp
    clear hz1
    go_wp2_with fail
    refine (noughts_any _).mono ?_
    rintro e w2 ⟨g2,rfl,hc2,hq2⟩
    have c2:=hc2 k hlt
    rw [← HZ.out] at c2
    clear hc2
    go_wp2_with fail
    go_ret
    exact ⟨rfl,(hq1.trans hq).trans hq2⟩
   ·have ht:=str_ne hp
    have HN2:=Lib.hid (HN.out hp)
    clear hz1 hp
    go_wp2_with fail
    exact ⟨⟨k + 1,by go_num,by omega,HN2.out,hq⟩,by simp [intOf];omega⟩
  ·have hke:k = 20:=by omega
   subst hke
   have HZ:=Lib.hid (HM2.out hno)
   clear hno
   go_wp2_with fail
   go_ret
   rw [HZ.out]
   exact ⟨rfl,hq1.trans hq⟩
theorem digit_any (x:ByteArray) (d:Int) (w:World) (h0:0 ≤ d) (h9:d ≤ 9) :
  Calls Tryz.prog 36 #[.string x,.int .i64 d] w fun e w'=>e = .returned (.string (encB (nz x.data.toList + d))) ∧ Q w w':=by
 have hb:=nz_bd x.data.toList
 have hb2:-1 ≤ nz x.data.toList ∧ nz x.data.toList ≤ 120812:=by omega
 have hz:=fun w=>zero_any x w
 clear hb
 generalize nz x.data.toList = z at *
 go_enter Tryz.func36,Tryz.ntmps36
 go_wp2_with (go_at_call 63;refine (hz _).mono ?_;rintro e w1 ⟨rfl,hq1⟩)
 refine (Ur.encode_any _ _).mono ?_
 rintro e w2 ⟨rfl,hq2⟩
 go_wp2_with fail
 go_ret
 exact ⟨rfl,hq1.trans hq2⟩
theorem name_any (n:Int) (w:World) (h0:-9223372036854775808 ≤ n) (h1:n ≤ 9223372036854775807) :
  Calls Tryz.prog 105 #[.int .i64 n] w fun e w'=>e = .returned (.string ⟨(nm n).toArray⟩) ∧ Q w w':=by
 have hi:=idx_lt n
 have hA:=fun w=>Ur.around_any n 20 w h0 h1 (by omega) (by omega)
 rw [idx_int] at hA
 have hn:nm n = nmL.getD (idx n) []:=rfl
 rw [hn]
 clear hn
 generalize idx n = k at *
 have HA:=Lib.hid hA
 clear hA
 go_enter Tryz.func105,Tryz.ntmps105
 go_wp2_with fail
 refine (names_any _).mono ?_
 rintro e w1 ⟨g,rfl,hg,hcell,hsl,hq1⟩
 have c1:=hcell k hi
 clear hcell hsl
 obtain ⟨p,hp⟩:∃ p,p = (⟨(nmL.getD k []).toArray⟩:ByteArray):=⟨_,rfl⟩
 rw [← hp] at c1
 have HP:=Lib.hid hp
 clear hp
 go_wp2_with fail
 refine (HA.out _).mono ?_
 rintro e w2 ⟨rfl,rfl⟩
 go_wp2_with fail
 go_ret
 rw [← HP.out]
 exact ⟨rfl,hq1⟩
end Sr
end Go.Proofs.YtghfdapfnoeanaaGreatDoor
