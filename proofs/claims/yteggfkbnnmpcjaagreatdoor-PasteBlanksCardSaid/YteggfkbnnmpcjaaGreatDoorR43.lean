/- The list of what is looked at in a record, and a locale that is new. (and more) -/
import Derived.Test.YteggfkbnnmpcjaaGreatDoorR42
set_option linter.all false
set_option maxRecDepth 100000
set_option maxHeartbeats 8000000
namespace Go.Proofs.YteggfkbnnmpcjaaGreatDoor
section
open Go.RowKit
namespace Lo
open Um Cm Gm
def lookC (rb lp ep:Nat):List Value:=[.string ⟨#[110,97,109,101]⟩,
 .int .i64 2,
 .func (.func 92) #[] #[.pointer (some ⟨rb,0,none⟩)],
 .string ⟨#[112,97,116,116,101,114,110]⟩,
 .int .i64 0,
 .func (.func 94) #[] #[.pointer (some ⟨ep,0,none⟩)],
 .string ⟨#[112,97,116,116,101,114,110]⟩,
 .int .i64 5,
 .func (.func 95) #[] #[.pointer (some ⟨lp,0,none⟩)],
 .string ⟨#[115,121,115,116,101,109]⟩,
 .int .i64 7,
 .func (.func 97) #[] #[.pointer (some ⟨rb,0,none⟩)],
 .string ⟨#[100,101,99,105,109,97,108]⟩,
 .int .i64 2,
 .func (.func 99) #[] #[.pointer (some ⟨rb,0,none⟩)],
 .string ⟨#[103,114,111,117,112]⟩,
 .int .i64 2,
 .func (.func 101) #[] #[.pointer (some ⟨lp,0,none⟩)],
 .string ⟨#[109,105,110,117,115]⟩,
 .int .i64 2,
 .func (.func 103) #[] #[.pointer (some ⟨rb,0,none⟩)],
 .string ⟨#[112,101,114,99,101,110,116]⟩,
 .int .i64 2,
 .func (.func 104) #[] #[.pointer (some ⟨lp,0,none⟩),.pointer (some ⟨rb,0,none⟩)],
 .string ⟨#[99,117,114,114,101,110,99,121]⟩,
 .int .i64 2,
 .func (.func 106) #[] #[.pointer (some ⟨lp,0,none⟩),.pointer (some ⟨rb,0,none⟩)],
 .string ⟨#[97,102,102,105,120]⟩,
 .int .i64 2,
 .func (.func 107) #[] #[.pointer (some ⟨lp,0,none⟩)],
 .string ⟨#[97,102,102,105,120]⟩,
 .int .i64 3,
 .func (.func 111) #[] #[.pointer (some ⟨lp,0,none⟩)],
 .string ⟨#[100,101,99,105,109,97,108]⟩,
 .int .i64 6,
 .func (.func 113) #[] #[.pointer (some ⟨lp,0,none⟩)],
 .string ⟨#[103,114,111,117,112]⟩,
 .int .i64 6,
 .func (.func 115) #[] #[.pointer (some ⟨lp,0,none⟩)],
 .string ⟨#[109,105,110,117,115]⟩,
 .int .i64 6,
 .func (.func 116) #[] #[.pointer (some ⟨lp,0,none⟩)],
 .string ⟨#[97,102,102,105,120]⟩,
 .int .i64 6,
 .func (.func 117) #[] #[.pointer (some ⟨lp,0,none⟩)]]
theorem looks_any (g:Nat) (r:Lm.Rec) (X:Pt.Pat) (a b c d cl:Value) (w:World) (hB:LB w g r X a b c d cl) :
  Calls Tryz.prog 57 #[.pointer (some ⟨g,0,none⟩),.int .i64 0] w fun e w'=>∃ G rb lp ep,e = .returned (.slice (some ⟨G,0,none⟩) 15 15) /\ Bk w' G 114 (lookC rb lp ep) /\ EnvL w' g rb lp ep r X a b c d cl /\ Q w w':=by
 have HB:=Hd hB;have hB2:=hB.q (((Q.refl w).alloc (.cells #[.pointer (some ⟨g,0,none⟩)] 24)).alloc (.cells #[.int .i64 0] 48));have c0:=hB2.1.cell 0 rfl;have c1:=hB2.1.cell 1 rfl;have c2:=hB2.1.cell 2 rfl;have c3:=hB2.1.cell 3 rfl;have c4:=hB2.1.cell 4 rfl;have c5:=hB2.1.cell 5 rfl;have c6:=hB2.1.cell 6 rfl;have c7:=hB2.1.cell 7 rfl;have HRC:Hid (∀ W:World,Bk (W.alloc (.cells #[.string (Lm.bs r.nam),.string (Lm.bs r.pat),.string (Lm.bs r.sys),.string (Lm.bs r.dec),.string (Lm.bs r.grp),.string (Lm.bs r.min),.string (Lm.bs r.per),.string (Lm.bs r.cur)] 70)) W.heap.size 70 (recC r)):=Hd (fun W=>Bk.new W _ _);obtain ⟨s0,hs0⟩:∃ x,x = Lm.bs r.nam:=⟨_,rfl⟩;obtain ⟨s1,hs1⟩:∃ x,x = Lm.bs r.pat:=⟨_,rfl⟩;obtain ⟨s2,hs2⟩:∃ x,x = Lm.bs r.sys:=⟨_,rfl⟩;obtain ⟨s3,hs3⟩:∃ x,x = Lm.bs r.dec:=⟨_,rfl⟩;obtain ⟨s4,hs4⟩:∃ x,x = Lm.bs r.grp:=⟨_,rfl⟩;obtain ⟨s5,hs5⟩:∃ x,x = Lm.bs r.min:=⟨_,rfl⟩;obtain ⟨s6,hs6⟩:∃ x,x = Lm.bs r.per:=⟨_,rfl⟩;obtain ⟨s7,hs7⟩:∃ x,x = Lm.bs r.cur:=⟨_,rfl⟩;rw [<- hs0,<- hs1,<- hs2,<- hs3,<- hs4,<- hs5,<- hs6,<- hs7] at HRC;rw [<- hs0] at c0;rw [<- hs1] at c1;rw [<- hs2] at c2;rw [<- hs3] at c3;rw [<- hs4] at c4;rw [<- hs5] at c5;rw [<- hs6] at c6;rw [<- hs7] at c7;clear hB hB2 hs0 hs1 hs2 hs3 hs4 hs5 hs6 hs7;go_enter Tryz.func57,Tryz.ntmps57
 go_wp2_with fail
 go_ret
 have e1:=alloc_size w (.cells #[.pointer (some ⟨g,0,none⟩)] 24);have e2:=alloc_size (w.alloc (.cells #[.pointer (some ⟨g,0,none⟩)] 24)) (.cells #[.int .i64 0] 48);have e3:=alloc_size ((w.alloc (.cells #[.pointer (some ⟨g,0,none⟩)] 24)).alloc (.cells #[.int .i64 0] 48)) (.cells #[.string s0,.string s1,.string s2,.string s3,.string s4,.string s5,.string s6,.string s7] 70);rw [e1] at e2;rw [e2] at e3;have hG:=Bk.new (((w.alloc (.cells #[.pointer (some ⟨g,0,none⟩)] 24)).alloc (.cells #[.int .i64 0] 48)).alloc (.cells #[.string s0,.string s1,.string s2,.string s3,.string s4,.string s5,.string s6,.string s7] 70)) 114 (lookC (w.heap.size + 1 + 1) w.heap.size (w.heap.size + 1));have hR:=(HRC.out ((w.alloc (.cells #[.pointer (some ⟨g,0,none⟩)] 24)).alloc (.cells #[.int .i64 0] 48)));have hP:=Bk.new (w.alloc (.cells #[.pointer (some ⟨g,0,none⟩)] 24)) 48 [.int .i64 0];have hL:=Bk.new w 24 [.pointer (some ⟨g,0,none⟩)];rw [e3] at hG;rw [e2] at hR;rw [e1] at hP;clear e1 e2 e3;refine ⟨w.heap.size + 1 + 1 + 1,w.heap.size + 1 + 1,w.heap.size,w.heap.size + 1,rfl,hG,⟨HB.out.q (((((Q.refl w).alloc _).alloc _).alloc _).alloc _),hR.q ((Q.refl _).alloc _),((hL.q ((Q.refl _).alloc _)).q ((Q.refl _).alloc _)).q ((Q.refl _).alloc _),(hP.q ((Q.refl _).alloc _)).q ((Q.refl _).alloc _)⟩,((((Q.refl w).alloc _).alloc _).alloc _).alloc _⟩
end Lo
end
end Go.Proofs.YteggfkbnnmpcjaaGreatDoor
