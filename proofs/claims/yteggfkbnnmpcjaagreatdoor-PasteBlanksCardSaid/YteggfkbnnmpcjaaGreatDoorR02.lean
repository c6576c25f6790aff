/- What the library's Builder.grow answers at a fresh builder here, laid out of its contract. (and more) -/
import Derived.Test.YteggfkbnnmpcjaaGreatDoorR00
import Derived.Shelf.Strings.Builder2
import Derived.RangeFuncBox
import Derived.ChangeOld
import Derived.Below
import Derived.Lib.SmallJoins
import Derived.Shelf.Strings.Trim
import Derived.Shelf.Strings.Split
import Derived.Shelf.GgClosure.StringsTrimFunc
import Derived.Deep.Cut
import Derived.Deep.DeepCutAuto
import Derived.Deep.QuietTactic
import Derived.Deep.RegionWith
import Derived.BigQuiet
import Derived.RangeFuncNested
import Derived.RangeFuncCalls
import Derived.RangeFuncLeaves
import Derived.Shelf.Abstract
import Derived.OwnWalkIn
import Derived.Laws.OwnMore
import Derived.OwnWalk
import Derived.Laws.CopyOwn
import Derived.ShutString
import Derived.Lib.Builder
set_option linter.all false
set_option maxRecDepth 100000
set_option maxHeartbeats 8000000
namespace Go.Proofs.YteggfkbnnmpcjaaGreatDoor
section
open Go.Shelf
def shelfGrowRen:Go.Shelf.Ren:=⟨fun | 241=>214 | 277=>227 | n=>n,fun | 0=>0 | 3=>3 | 37=>62 | 70=>91 | 72=>93 | 5=>5 | n=>n,fun | n=>n⟩
theorem shelfGrow:Go.Proofs.Lays.n241 Tryz.prog shelfGrowRen:={
 mixed:=by kernel_rfl
 f241:=Tryz.func214.trans (congrArg some (by kernel_rfl))
 f277:=Tryz.func227.trans (congrArg some (by kernel_rfl))
 t0:=Tryz.underlying0
 a0:=Tryz.isAgg0
 z0:=Tryz.sizeOf0
 v0:=Tryz.zeroValue0
 t3:=Tryz.underlying3
 a3:=Tryz.isAgg3
 z3:=Tryz.sizeOf3
 v3:=Tryz.zeroValue3
 t37:=Tryz.underlying62
 a37:=Tryz.isAgg62
 z37:=Tryz.sizeOf62
 v37:=Tryz.zeroValue62
 t70:=Tryz.underlying91
 a70:=Tryz.isAgg91
 z70:=Tryz.sizeOf91
 v70:=Tryz.zeroValue91
 t72:=Tryz.underlying93
 a72:=Tryz.isAgg93
 z72:=Tryz.sizeOf93
 v72:=Tryz.zeroValue93 }
theorem shelfGrowX:Builder.Extra Tryz.prog shelfGrowRen:={
 sizeBuilder:=by kernel_rfl
 liesBuilder:=by kernel_rfl
 t5:=Tryz.underlying5
 a5:=Tryz.isAgg5
 z5:=Tryz.sizeOf5
 v5:=Tryz.zeroValue5
 infoByte:=by kernel_rfl
 cellsByte:=by kernel_rfl
 sizeByte:=by kernel_rfl
 neB5:=by decide }
open Go.RowKit in
theorem grow_any (B b n:Nat) (w:World) (hB:B <= b) (hbk:w.heap[b]? = some (.cells #[.pointer (some ⟨b,0,none⟩),.slice none 0 0] 93 (0,0))) (hBw:B <= w.heap.size) (hn:n <= 281474976710656) :
  Calls Tryz.prog 214 #[.pointer (some ⟨b,0,none⟩),.int .i64 n] w fun e w'=>e = .returned (.tuple #[]) /\ (Lib.BuilderAt 93 5 B b (.pointer (some ⟨b,0,none⟩)) [] w' /\ Below B w w'):=Any.Builder_grow_fresh shelfGrow shelfGrowX B b n w hB hbk hBw hn
end
section
open Go.RowKit
structure Gap (lo hi:Nat) (A A':World):Prop where
 os:A'.os = A.os
 tape:A'.tape = A.tape
 output:A'.output = A.output
 size:A.heap.size <= A'.heap.size
 block:∀ k,k < A.heap.size -> (k < lo \/ hi <= k) -> A'.heap[k]? = A.heap[k]?
theorem Gap.refl (lo hi:Nat) (A:World):Gap lo hi A A:=⟨rfl,rfl,rfl,Nat.le_refl _,fun _ _ _=>rfl⟩
theorem Gap.trans {lo hi:Nat} {A B C:World} (h:Gap lo hi A B) (k:Gap lo hi B C):Gap lo hi A C :=
 ⟨k.os.trans h.os,k.tape.trans h.tape,k.output.trans h.output,Nat.le_trans h.size k.size,fun i hi' ho=>(k.block i (Nat.lt_of_lt_of_le hi' h.size) ho).trans (h.block i hi' ho)⟩
theorem Gap.mono {lo hi lo' hi':Nat} {A B:World} (h:Gap lo hi A B) (h1:lo' <= lo) (h2:hi <= hi'):Gap lo' hi' A B :=
 ⟨h.os,h.tape,h.output,h.size,fun k hk ho=>h.block k hk (by omega)⟩
theorem Q.gap {A B:World} (h:Q A B) (lo hi:Nat):Gap lo hi A B:=⟨h.os,h.tape,h.output,h.size,fun k hk _=>h.block hk⟩
theorem Gap.below {lo hi:Nat} {A B:World} (h:Gap lo hi A B) (hl:lo <= A.heap.size):Below lo A B :=
 ⟨h.os,h.tape,h.output,h.size,fun k hk=>h.block k (Nat.lt_of_lt_of_le hk hl) (.inl hk)⟩
theorem Gap.setCell (A:World) (b o:Nat) (v:Value) (lo hi:Nat) (h1:lo <= b) (h2:b < hi):Gap lo hi A (A.setCell ⟨b,o,none⟩ v) :=
 ⟨rfl,rfl,rfl,by simp [World.setCell],fun k _ ho=>Below.heap_setCell _ _ _ _ (by show k ≠ b;omega)⟩
theorem Gap.alloc (A:World) (o:Obj) (lo hi:Nat):Gap lo hi A (A.alloc o):=((Q.refl A).alloc o).gap lo hi
theorem Gap.grown {A B:World} {row:Option Nat} (lo hi:Nat) (hg:A.grownBy B row) (hr:∀ k,row = some k -> lo <= k /\ k < hi):Gap lo hi A B :=
 ⟨hg.os,hg.tape,hg.output,hg.size,fun k hk ho=>hg.block k hk (fun e=>by have:=hr k e.symm;omega)⟩
theorem Gap.putObj (A:World) (l:Nat) (o:Obj) (lo hi:Nat) (h1:lo <= l) (h2:l < hi):Gap lo hi A (A.putObj l o) :=
 .grown lo hi (grownBy_putObj' A l o) (fun k e=>by cases e;exact ⟨h1,h2⟩)
theorem bx_q {w w':World} {B:Nat} {t:TypeId} {v:Value} (h:Boxed w B t v) (hq:Q w w'):Boxed w' B t v:=(hq.block h.lt).trans h
theorem bx_gap {w w':World} {lo hi B:Nat} {t:TypeId} {v:Value} (h:Boxed w B t v) (hg:Gap lo hi w w') (ho:B < lo \/ hi <= B):Boxed w' B t v:=(hg.block B h.lt ho).trans h
theorem bx_past {w:World} {B:Nat} {t:TypeId} {v:Value} (h:Boxed w B t v) (b o:Nat) (u:Value) (hb:b ≠ B):Boxed (w.setCell ⟨b,o,none⟩ u) B t v :=
 (Below.heap_setCell w ⟨b,o,none⟩ u B (Ne.symm hb)).trans h
theorem Own.gap {w w':World} {B lo hi:Nat} {v:Value} {zs:List Int} (h:Own w B v zs) (hg:Gap lo hi w w') (ho:∀ g,v.ownBlock = some g -> g < lo \/ hi <= g):Own w' B v zs :=
 h.same fun g hv=>hg.block g (h.lt g hv).2 (ho g hv)
theorem Lst.gap {w w':World} {lo hi:Nat} {v:Value} {zs:List Int} (h:Lst w v zs) (hg:Gap lo hi w w') (ho:∀ g o c,v = .slice (some ⟨g,o,none⟩) zs.length c -> g < lo \/ hi <= g):Lst w' v zs:=by
 rcases h with h | ⟨g,off,cap,hv,hl,h1,h2,hc⟩
 ·exact .inl h
 ·refine .inr ⟨g,off,cap,hv,Nat.lt_of_lt_of_le hl hg.size,h1,h2,fun i hi=>?_⟩
  rw [World.cell?_of_block (w:=w) (hg.block g hl (ho g off cap hv))];exact hc i hi
end
section
open Go.ChangeShapes Go.WideShapes Go.RowKit
namespace FrH
section
variable {H:Type} {enc:TypeId × Value -> H} {P:Program} {w:World} {base:Nat} {spare:Nat -> Bool} {held:Bool}
theorem open_any {r:Reach} {b0:Nat} {t:TypeId} {fs:Array Field} {v:Value} {d:DataW H} {p:List MemPlace} (hs:P.underlying t = some (.struct fs)) {k:Nat} (hC:P.cellsOf t = k)
  (hv:Value.okWide P w r b0 t v) (h:DataW.Trod enc P w base spare held t v d p) :
  ∃ cs:Array Value,v = .agg cs /\ cs.size = k /\ ∃ n y,DataW.trod enc P w base spare held n t cs.toList = some y:=by
 obtain ⟨cs,rfl,hsz⟩:=okWide_struct hs hv;obtain ⟨fuel,hf⟩:=h;exact ⟨cs,rfl,hsz.trans hC,fuel,_,by simpa [Value.cells] using hf⟩
theorem nest {t:TypeId} {fs:Array Field} (hs:P.underlying t = some (.struct fs)) {cells:List Value} (h:∃ n y,DataW.trod enc P w base spare held n t cells = some y) (i:Nat) {f:Field} (hf:fs[i]? = some f) (o k:Nat) (ho:f.offset = o) {T:TypeId} (hT:f.type = T) (hk:P.cellsOf T = k) {l:List Value} (hl:(cells.drop o).take k = l) :
  ∃ n y,DataW.trod enc P w base spare held n T l = some y:=by
 obtain ⟨n,y,h⟩:=h;obtain ⟨xs,m,_,_,_,hxl,hx⟩:=DataW.trod_struct hs h;have h1:=hx i f hf;rw [ho,hT,hk,hl] at h1;have hi:i < fs.size:=(Array.getElem?_eq_some_iff.1 hf).1;exact ⟨m,_,h1.trans (List.getElem?_eq_getElem (by omega))⟩
end
theorem arr4 {cs:Array Value} (h:cs.size = 4):∃ a b c d,cs = #[a,b,c,d]:=by
 obtain ⟨l⟩:=cs;match l,h with
 | [a,b,c,d],_=>exact ⟨a,b,c,d,rfl⟩
theorem lst_of {H:Type} {enc:TypeId × Value -> H} {P:Program} {W:World} {held:Bool} {t e:TypeId} (h1:P.underlying t = some (.slice e)) (h2:P.underlying e = some (.int .i64)) (h3:P.cellsOf e = 1) {c:Value}
  (h:∃ n y,DataW.trod enc P W 0 (fun _=>true) held n t [c] = some y):∃ xs,Lst W c xs /\ ∀ n ∈ xs,-9223372036854775808 <= n /\ n <= 9223372036854775807:=by
 obtain ⟨n,y,h⟩:=h;rcases open_ints h1 h2 h3 h with ⟨hcs,_⟩ | ⟨x,l,c',zs,hcs,_,hl,hm,hz,_,hcell,hwz⟩
 ·obtain rfl:c = .slice none 0 0:=by simpa using hcs
  exact ⟨[],.nil _ _ _ (by unfold maxLen;omega) (fun _=>rfl),by simp⟩
 ·obtain rfl:c = .slice (some x) l c':=by simpa using hcs
  obtain ⟨xs,hx,_,hb⟩:=IsRow.lst (w:=W) (.inr ⟨_,rfl,hl,hm,by simpa using hz,hcell,hwz⟩);exact ⟨xs,hx,hb⟩
theorem bool_of {H:Type} {enc:TypeId × Value -> H} {P:Program} {W:World} {held:Bool} {t:TypeId} (h1:P.underlying t = some .bool) {c:Value}
  (h:∃ n y,DataW.trod enc P W 0 (fun _=>true) held n t [c] = some y):∃ b,c = .bool b:=by
 obtain ⟨n,y,h⟩:=h;obtain ⟨b,h,_⟩:=DataW.trod_bool h1 h;exact ⟨b,by simpa using h⟩
theorem int_of {H:Type} {enc:TypeId × Value -> H} {P:Program} {W:World} {held:Bool} {t:TypeId} (h1:P.underlying t = some (.int .i64)) {c:Value}
  (h:∃ n y,DataW.trod enc P W 0 (fun _=>true) held n t [c] = some y):∃ i,c = .int .i64 i /\ -9223372036854775808 <= i /\ i <= 9223372036854775807:=by
 obtain ⟨n,y,h⟩:=h;obtain ⟨i,h,_,hw⟩:=DataW.trod_int h1 h;exact ⟨i,by simpa using h,bounds_i64 hw⟩
end FrH
end
section
open Go.RowKit
namespace Bl
theorem sizeB:(Tryz.prog.info? 93).map (·.size) = some 2:=by kernel_rfl
theorem liesB:liesAt Tryz.prog Tryz.prog.depth 93 (2 / Tryz.prog.cellsOf 93) 0 93 1 = true:=by kernel_rfl
theorem infoByte:(Tryz.prog.info? 5).map (fun i=>(i.zero,i.size,i.bytes)) = some (some (.int .u8 0),1,1):=by kernel_rfl
theorem check_used (b:Nat) (w:World) (h0:w.cell? ⟨b,0,none⟩ = some (.pointer (some ⟨b,0,none⟩))) :
  Calls Tryz.prog 83 #[.pointer (some ⟨b,0,none⟩)] w fun e w'=>e = .returned (.tuple #[]) /\ w' = w:=by
 obtain ⟨j,hj,_⟩:=Option.map_eq_some_iff.1 sizeB;go_enter Tryz.func83,Tryz.ntmps83
 go_wp2
 rw [Lib.run_neq_ptr_same w _ Tryz.underlying91 hj];go_wp2
 go_end0
 exact ⟨rfl,rfl⟩
theorem check_fresh (b:Nat) (w:World) (h0:w.cell? ⟨b,0,none⟩ = some (.pointer none)) (hsh:w.shape? b = some (93,2)) (hfz:w.frozen? ⟨b,0,none⟩ = false) :
  Calls Tryz.prog 83 #[.pointer (some ⟨b,0,none⟩)] w fun e w'=>e = .returned (.tuple #[]) /\ w' = w.setCell ⟨b,0,none⟩ (.pointer (some ⟨b,0,none⟩)):=by
 obtain ⟨j,hj,hjs⟩:=Option.map_eq_some_iff.1 sizeB;go_enter Tryz.func83,Tryz.ntmps83
 go_wp2
 rw [Lib.run_to_unsafe w ⟨b,0,none⟩ Tryz.underlying91 Tryz.underlying167 hj (by rw [hjs];decide) hsh (Nat.zero_lt_succ 1)];simp only [Result.andThen];rw [Oper.upon_value];go_wp2
 rw [run_callFunc_extern Tryz.func135 (by kernel_rfl) (by kernel_rfl) (by kernel_rfl) (e:=Extern.AbiNoEscape.same) (by kernel_rfl)];rw [Lib.run_noEscape];simp only [Result.andThen];rw [Oper.upon_value];go_wp2
 rw [Lib.run_from_unsafe w ⟨b,0,none⟩ Tryz.underlying167 Tryz.underlying91 hj hsh liesB];simp only [Result.andThen];rw [Oper.upon_value];go_wp2
 go_end0
 exact ⟨rfl,rfl⟩
def Is (B b:Nat) (bs:List Value) (w:World):Prop:=Lib.IsBuilderF 93 5 B b bs w
theorem check_any (B b:Nat) (bs:List Value) (w:World) (h:Is B b bs w) :
  Calls Tryz.prog 83 #[.pointer (some ⟨b,0,none⟩)] w fun e w'=>e = .returned (.tuple #[]) /\ Lib.BuilderAtF 93 5 B b (.pointer (some ⟨b,0,none⟩)) bs w' /\ Below B w w' /\ Lib.OthersKept 5 (some b) w w':=by
 rcases h with h | h
 ·refine (check_fresh b w h.cell0 h.shape h.frozen0).mono ?_
  rintro e w' ⟨rfl,rfl⟩;exact ⟨rfl,h.used _,(Below.refl B w).setCell (p:=⟨b,0,none⟩) h.1 _,(Lib.OthersKept.refl _ _ w).setCell ⟨b,0,none⟩ rfl _⟩
 ·refine (check_used b w h.cell0).mono ?_
  rintro e w' ⟨rfl,rfl⟩;exact ⟨rfl,h,Below.refl B _,Lib.OthersKept.refl _ _ _⟩
theorem write_any (B b:Nat) (bs:List Value) (s:ByteArray) (w:World) (h:Is B b bs w) (hlen:bs.length + s.size <= 140737488355328) (hBw:B <= w.heap.size) :
  Calls Tryz.prog 47 #[.pointer (some ⟨b,0,none⟩),.string s] w fun e w'=>e = .returned (.tuple #[.int .i64 s.size,.nilIface]) /\ Is B b (bs ++ Lib.strCells s) w' /\ Below B w w' /\ Lib.OthersKept 5 (some b) w w':=by
 obtain ⟨i0,hi,hz0,hz1,hz2⟩:=info_parts infoByte;go_enter Tryz.func47,Tryz.ntmps47
 go_wp2_with (go_at_call 83;refine (check_any B b bs _ h).mono ?_)
 rintro e w1 ⟨rfl,h1,hb1,hk1⟩;obtain ⟨hB,v,hbk,hown,hne⟩:=h1;have c0:w1.cell? ⟨b,0,none⟩ = some (.pointer (some ⟨b,0,none⟩)):=by rw [Lib.cell_of_heap hbk];rfl
 have c1:w1.cell? ⟨b,1,none⟩ = some v:=by rw [Lib.cell_of_heap hbk];rfl
 go_wp2_with (at_builtin;refine Lib.wpList_append_own_stringF _ rfl _ _ 62 9 rfl B 5 i0 Tryz.underlying62 Tryz.underlying9 hi hz0 hz1 hz2 _ _ _ rfl hown s rfl ?c3 ?c4 ?c5 ?_)
 case c3=>unfold maxLen;omega
 case c4=>omega
 case c5=>have:=hb1.size;omega
 intro v' w2 hown' hgrow _;have hlt:b < w1.heap.size:=(Array.getElem?_eq_some_iff.1 hbk).1;have hb2:w2.heap[b]? = some (.cells #[.pointer (some ⟨b,0,none⟩),v] 93 (0,0)):=by
  rw [hgrow.block b hlt (fun e=>hne e.symm)];exact hbk
 have d0:w2.cell? ⟨b,0,none⟩ = some (.pointer (some ⟨b,0,none⟩)):=by rw [Lib.cell_of_heap hb2];rfl
 have d1:w2.cell? ⟨b,1,none⟩ = some v:=by rw [Lib.cell_of_heap hb2];rfl
 have f1:w2.frozen? ⟨b,1,none⟩ = false:=Lib.frozen_of_heap hb2 1;obtain ⟨ao,n',cap,rfl⟩:∃ ao n' cap,v' = .slice ao n' cap:=by
  rcases hown'.2 with ⟨hv,_⟩ | ⟨g,cap,cur,fz,hv,_⟩
  ·exact ⟨_,_,_,hv⟩
  ·exact ⟨_,_,_,hv⟩
 go_wp2
 go_ret2
 refine ⟨rfl,.inr ?_,?_,(hk1.grown hgrow (Lib.ownsRowF_kind hown)).setCell ⟨b,1,none⟩ rfl _⟩
 ·exact Lib.BuilderAtF.put (T:=93) (e:=5) hB hb2 (bs':=bs ++ Lib.strCells s) (by simpa [Lib.strCells_length] using hown') (by decide)
 ·exact (hb1.grown hgrow (by have:=hb1.size;omega) (fun k hk=>(hown.lt k hk).1)).setCell (p:=⟨b,1,none⟩) hB _
theorem done_any (B b:Nat) (l:List UInt8) (w:World) (h:Is B b (Lib.byteCells l) w) (hBw:B <= w.heap.size) :
  Calls Tryz.prog 49 #[.pointer (some ⟨b,0,none⟩)] w fun e w'=>e = .returned (.string ⟨l.toArray⟩) /\ Below B w w':=by
 refine (string_any B b l w h hBw).mono ?_;rintro e w' ⟨rfl,_,hb,_⟩;exact ⟨rfl,hb⟩
theorem Is.fresh (w:World):Is w.heap.size w.heap.size (Lib.byteCells []) (w.alloc (.cells #[.pointer none,.slice none 0 0] 93)):=Lib.IsBuilderF.of (Lib.fresh_isBuilder 93 5 w)
theorem Is.write {B b:Nat} {l:List UInt8} {s:ByteArray} {w:World} (h:Is B b (Lib.byteCells l ++ Lib.strCells s) w):Is B b (Lib.byteCells (l ++ s.data.toList)) w:=by
 rw [Lib.byteCells_append];exact h
theorem cells_length (l:List UInt8):(Lib.byteCells l).length = l.length:=Lib.byteCells_length l
end Bl
end
section
open Go.Shelf
namespace Sp
def shelfTrimRen:Go.Shelf.Ren:=⟨fun | 119=>237 | 120=>235 | 137=>236 | 151=>229 | 152=>234 | 160=>207 | 197=>226 | 217=>222 | 224=>224 | 225=>223 | 227=>217 | 228=>228 | 231=>215 | 232=>216 | 233=>218 | 234=>219 | 235=>220 | 236=>221 | 260=>233 | 266=>231 | 271=>230 | n=>n,fun | 0=>0 | 3=>3 | 4=>4 | 5=>5 | 9=>9 | 21=>21 | 46=>227 | 105=>254 | 116=>249 | 117=>250 | 119=>261 | 124=>253 | 138=>263 | 139=>264 | n=>n,fun | 3=>4 | 4=>5 | n=>n⟩
theorem shelfTrim:Go.Proofs.Lays.n160 Tryz.prog shelfTrimRen:={
 mixed:=by kernel_rfl
 f119:=Tryz.func237.trans (congrArg some (by kernel_rfl))
 f120:=Tryz.func235.trans (congrArg some (by kernel_rfl))
 f137:=Tryz.func236.trans (congrArg some (by kernel_rfl))
 f151:=Tryz.func229.trans (congrArg some (by kernel_rfl))
 f152:=Tryz.func234.trans (congrArg some (by kernel_rfl))
 f160:=Tryz.func207.trans (congrArg some (by kernel_rfl))
 f197:=Tryz.func226.trans (congrArg some (by kernel_rfl))
 f217:=Tryz.func222.trans (congrArg some (by kernel_rfl))
 f224:=Tryz.func224.trans (congrArg some (by kernel_rfl))
 f225:=Tryz.func223.trans (congrArg some (by kernel_rfl))
 f227:=Tryz.func217.trans (congrArg some (by kernel_rfl))
 f228:=Tryz.func228.trans (congrArg some (by kernel_rfl))
 f231:=Tryz.func215.trans (congrArg some (by kernel_rfl))
 f232:=Tryz.func216.trans (congrArg some (by kernel_rfl))
 f233:=Tryz.func218.trans (congrArg some (by kernel_rfl))
 f234:=Tryz.func219.trans (congrArg some (by kernel_rfl))
 f235:=Tryz.func220.trans (congrArg some (by kernel_rfl))
 f236:=Tryz.func221.trans (congrArg some (by kernel_rfl))
 f260:=Tryz.func233.trans (congrArg some (by kernel_rfl))
 f266:=Tryz.func231.trans (congrArg some (by kernel_rfl))
 f271:=Tryz.func230.trans (congrArg some (by kernel_rfl))
 t0:=Tryz.underlying0
 a0:=Tryz.isAgg0
 z0:=Tryz.sizeOf0
 v0:=Tryz.zeroValue0
 t3:=Tryz.underlying3
 a3:=Tryz.isAgg3
 z3:=Tryz.sizeOf3
 v3:=Tryz.zeroValue3
 t4:=Tryz.underlying4
 a4:=Tryz.isAgg4
 z4:=Tryz.sizeOf4
 v4:=Tryz.zeroValue4
 t5:=Tryz.underlying5
 a5:=Tryz.isAgg5
 z5:=Tryz.sizeOf5
 v5:=Tryz.zeroValue5
 t9:=Tryz.underlying9
 a9:=Tryz.isAgg9
 z9:=Tryz.sizeOf9
 v9:=Tryz.zeroValue9
 t21:=Tryz.underlying21
 a21:=Tryz.isAgg21
 z21:=Tryz.sizeOf21
 v21:=Tryz.zeroValue21
 t46:=Tryz.underlying227
 a46:=Tryz.isAgg227
 z46:=Tryz.sizeOf227
 v46:=Tryz.zeroValue227
 t105:=Tryz.underlying254
 a105:=Tryz.isAgg254
 z105:=Tryz.sizeOf254
 v105:=Tryz.zeroValue254
 t116:=Tryz.underlying249
 a116:=Tryz.isAgg249
 z116:=Tryz.sizeOf249
 t117:=Tryz.underlying250
 a117:=Tryz.isAgg250
 z117:=Tryz.sizeOf250
 v117:=Tryz.zeroValue250
 t119:=Tryz.underlying261
 a119:=Tryz.isAgg261
 z119:=Tryz.sizeOf261
 t124:=Tryz.underlying253
 a124:=Tryz.isAgg253
 z124:=Tryz.sizeOf253
 v124:=Tryz.zeroValue253
 t138:=Tryz.underlying263
 a138:=Tryz.isAgg263
 z138:=Tryz.sizeOf263
 v138:=Tryz.zeroValue263
 t139:=Tryz.underlying264
 a139:=Tryz.isAgg264
 z139:=Tryz.sizeOf264
 v139:=Tryz.zeroValue264
 g3:=by kernel_rfl
 g4:=by kernel_rfl }
def shelfTrimLeftRen:Go.Shelf.Ren:=⟨fun | 119=>237 | 137=>236 | 151=>229 | 152=>234 | 161=>208 | 197=>226 | 217=>222 | 224=>224 | 225=>223 | 227=>217 | 228=>228 | 231=>215 | 233=>218 | 235=>220 | 260=>233 | 266=>231 | n=>n,fun | 0=>0 | 3=>3 | 4=>4 | 5=>5 | 9=>9 | 21=>21 | 46=>227 | 105=>254 | 116=>249 | 117=>250 | 119=>261 | 124=>253 | 138=>263 | 139=>264 | n=>n,fun | 3=>4 | 4=>5 | n=>n⟩
theorem shelfTrimLeft:Go.Proofs.Lays.n161 Tryz.prog shelfTrimLeftRen:={
 mixed:=by kernel_rfl
 f119:=Tryz.func237.trans (congrArg some (by kernel_rfl))
 f137:=Tryz.func236.trans (congrArg some (by kernel_rfl))
 f151:=Tryz.func229.trans (congrArg some (by kernel_rfl))
 f152:=Tryz.func234.trans (congrArg some (by kernel_rfl))
 f161:=Tryz.func208.trans (congrArg some (by kernel_rfl))
 f197:=Tryz.func226.trans (congrArg some (by kernel_rfl))
 f217:=Tryz.func222.trans (congrArg some (by kernel_rfl))
 f224:=Tryz.func224.trans (congrArg some (by kernel_rfl))
 f225:=Tryz.func223.trans (congrArg some (by kernel_rfl))
 f227:=Tryz.func217.trans (congrArg some (by kernel_rfl))
 f228:=Tryz.func228.trans (congrArg some (by kernel_rfl))
 f231:=Tryz.func215.trans (congrArg some (by kernel_rfl))
 f233:=Tryz.func218.trans (congrArg some (by kernel_rfl))
 f235:=Tryz.func220.trans (congrArg some (by kernel_rfl))
 f260:=Tryz.func233.trans (congrArg some (by kernel_rfl))
 f266:=Tryz.func231.trans (congrArg some (by kernel_rfl))
 t0:=Tryz.underlying0
 a0:=Tryz.isAgg0
 z0:=Tryz.sizeOf0
 v0:=Tryz.zeroValue0
 t3:=Tryz.underlying3
 a3:=Tryz.isAgg3
 z3:=Tryz.sizeOf3
 v3:=Tryz.zeroValue3
 t4:=Tryz.underlying4
 a4:=Tryz.isAgg4
 z4:=Tryz.sizeOf4
 v4:=Tryz.zeroValue4
 t5:=Tryz.underlying5
 a5:=Tryz.isAgg5
 z5:=Tryz.sizeOf5
 v5:=Tryz.zeroValue5
 t9:=Tryz.underlying9
 a9:=Tryz.isAgg9
 z9:=Tryz.sizeOf9
 v9:=Tryz.zeroValue9
 t21:=Tryz.underlying21
 a21:=Tryz.isAgg21
 z21:=Tryz.sizeOf21
 v21:=Tryz.zeroValue21
 t46:=Tryz.underlying227
 a46:=Tryz.isAgg227
 z46:=Tryz.sizeOf227
 v46:=Tryz.zeroValue227
 t105:=Tryz.underlying254
 a105:=Tryz.isAgg254
 z105:=Tryz.sizeOf254
 v105:=Tryz.zeroValue254
 t116:=Tryz.underlying249
 a116:=Tryz.isAgg249
 z116:=Tryz.sizeOf249
 t117:=Tryz.underlying250
 a117:=Tryz.isAgg250
 z117:=Tryz.sizeOf250
 v117:=Tryz.zeroValue250
 t119:=Tryz.underlying261
 a119:=Tryz.isAgg261
 z119:=Tryz.sizeOf261
 t124:=Tryz.underlying253
 a124:=Tryz.isAgg253
 z124:=Tryz.sizeOf253
 v124:=Tryz.zeroValue253
 t138:=Tryz.underlying263
 a138:=Tryz.isAgg263
 z138:=Tryz.sizeOf263
 v138:=Tryz.zeroValue263
 t139:=Tryz.underlying264
 a139:=Tryz.isAgg264
 z139:=Tryz.sizeOf264
 v139:=Tryz.zeroValue264
 g3:=by kernel_rfl
 g4:=by kernel_rfl }
def shelfCountRen:Go.Shelf.Ren:=⟨fun | 138=>196 | 143=>211 | 195=>209 | 217=>222 | 218=>210 | 219=>212 | 224=>224 | 225=>223 | 266=>231 | 267=>225 | 314=>232 | n=>n,fun | 0=>0 | 3=>3 | 4=>4 | 5=>5 | 9=>9 | 46=>227 | 51=>225 | 146=>258 | n=>n,fun | 1=>3 | n=>n⟩
theorem shelfCount:Go.Proofs.Lays.n138 Tryz.prog shelfCountRen:={
 mixed:=by kernel_rfl
 f138:=Tryz.func196.trans (congrArg some (by kernel_rfl))
 f143:=Tryz.func211.trans (congrArg some (by kernel_rfl))
 f195:=Tryz.func209.trans (congrArg some (by kernel_rfl))
 f217:=Tryz.func222.trans (congrArg some (by kernel_rfl))
 f218:=Tryz.func210.trans (congrArg some (by kernel_rfl))
 f219:=Tryz.func212.trans (congrArg some (by kernel_rfl))
 f224:=Tryz.func224.trans (congrArg some (by kernel_rfl))
 f225:=Tryz.func223.trans (congrArg some (by kernel_rfl))
 f266:=Tryz.func231.trans (congrArg some (by kernel_rfl))
 f267:=Tryz.func225.trans (congrArg some (by kernel_rfl))
 f314:=Tryz.func232.trans (congrArg some (by kernel_rfl))
 t0:=Tryz.underlying0
 a0:=Tryz.isAgg0
 z0:=Tryz.sizeOf0
 v0:=Tryz.zeroValue0
 t3:=Tryz.underlying3
 a3:=Tryz.isAgg3
 z3:=Tryz.sizeOf3
 v3:=Tryz.zeroValue3
 t4:=Tryz.underlying4
 a4:=Tryz.isAgg4
 z4:=Tryz.sizeOf4
 v4:=Tryz.zeroValue4
 t5:=Tryz.underlying5
 a5:=Tryz.isAgg5
 z5:=Tryz.sizeOf5
 v5:=Tryz.zeroValue5
 t9:=Tryz.underlying9
 a9:=Tryz.isAgg9
 z9:=Tryz.sizeOf9
 v9:=Tryz.zeroValue9
 t46:=Tryz.underlying227
 a46:=Tryz.isAgg227
 z46:=Tryz.sizeOf227
 v46:=Tryz.zeroValue227
 t51:=Tryz.underlying225
 a51:=Tryz.isAgg225
 z51:=Tryz.sizeOf225
 v51:=Tryz.zeroValue225
 t146:=Tryz.underlying258
 a146:=Tryz.isAgg258
 z146:=Tryz.sizeOf258
 v146:=Tryz.zeroValue258
 g1:=by kernel_rfl }
def shelfGenSplitRen:Go.Shelf.Ren:=⟨fun | 138=>196 | 143=>211 | 195=>209 | 197=>226 | 217=>222 | 218=>210 | 219=>212 | 221=>205 | 224=>224 | 225=>223 | 260=>233 | 266=>231 | 267=>225 | 268=>213 | 314=>232 | n=>n,fun | 0=>0 | 3=>3 | 4=>4 | 5=>5 | 9=>9 | 21=>21 | 31=>35 | 46=>227 | 51=>225 | 105=>254 | 119=>261 | 138=>263 | 139=>264 | 146=>258 | n=>n,fun | 1=>3 | 3=>4 | 4=>5 | n=>n⟩
theorem shelfGenSplit:Go.Proofs.Lays.n221 Tryz.prog shelfGenSplitRen:={
 mixed:=by kernel_rfl
 f138:=Tryz.func196.trans (congrArg some (by kernel_rfl))
 f143:=Tryz.func211.trans (congrArg some (by kernel_rfl))
 f195:=Tryz.func209.trans (congrArg some (by kernel_rfl))
 f197:=Tryz.func226.trans (congrArg some (by kernel_rfl))
 f217:=Tryz.func222.trans (congrArg some (by kernel_rfl))
 f218:=Tryz.func210.trans (congrArg some (by kernel_rfl))
 f219:=Tryz.func212.trans (congrArg some (by kernel_rfl))
 f221:=Tryz.func205.trans (congrArg some (by kernel_rfl))
 f224:=Tryz.func224.trans (congrArg some (by kernel_rfl))
 f225:=Tryz.func223.trans (congrArg some (by kernel_rfl))
 f260:=Tryz.func233.trans (congrArg some (by kernel_rfl))
 f266:=Tryz.func231.trans (congrArg some (by kernel_rfl))
 f267:=Tryz.func225.trans (congrArg some (by kernel_rfl))
 f268:=Tryz.func213.trans (congrArg some (by kernel_rfl))
 f314:=Tryz.func232.trans (congrArg some (by kernel_rfl))
 t0:=Tryz.underlying0
 a0:=Tryz.isAgg0
 z0:=Tryz.sizeOf0
 v0:=Tryz.zeroValue0
 t3:=Tryz.underlying3
 a3:=Tryz.isAgg3
 z3:=Tryz.sizeOf3
 v3:=Tryz.zeroValue3
 t4:=Tryz.underlying4
 a4:=Tryz.isAgg4
 z4:=Tryz.sizeOf4
 v4:=Tryz.zeroValue4
 t5:=Tryz.underlying5
 a5:=Tryz.isAgg5
 z5:=Tryz.sizeOf5
 v5:=Tryz.zeroValue5
 t9:=Tryz.underlying9
 a9:=Tryz.isAgg9
 z9:=Tryz.sizeOf9
 v9:=Tryz.zeroValue9
 t21:=Tryz.underlying21
 a21:=Tryz.isAgg21
 z21:=Tryz.sizeOf21
 v21:=Tryz.zeroValue21
 t31:=Tryz.underlying35
 a31:=Tryz.isAgg35
 z31:=Tryz.sizeOf35
 v31:=Tryz.zeroValue35
 t46:=Tryz.underlying227
 a46:=Tryz.isAgg227
 z46:=Tryz.sizeOf227
 v46:=Tryz.zeroValue227
 t51:=Tryz.underlying225
 a51:=Tryz.isAgg225
 z51:=Tryz.sizeOf225
 v51:=Tryz.zeroValue225
 t105:=Tryz.underlying254
 a105:=Tryz.isAgg254
 z105:=Tryz.sizeOf254
 v105:=Tryz.zeroValue254
 t119:=Tryz.underlying261
 a119:=Tryz.isAgg261
 z119:=Tryz.sizeOf261
 t138:=Tryz.underlying263
 a138:=Tryz.isAgg263
 z138:=Tryz.sizeOf263
 v138:=Tryz.zeroValue263
 t139:=Tryz.underlying264
 a139:=Tryz.isAgg264
 z139:=Tryz.sizeOf264
 v139:=Tryz.zeroValue264
 t146:=Tryz.underlying258
 a146:=Tryz.isAgg258
 z146:=Tryz.sizeOf258
 v146:=Tryz.zeroValue258
 g1:=by kernel_rfl
 g3:=by kernel_rfl
 g4:=by kernel_rfl }
open Go.RowKit Go.Lib in
theorem trim_any (s:ByteArray) (c:UInt8) (hc:c.toNat < 128) (w:World) (hs:s.size <= 9223372036854775807) :
  Calls Tryz.prog 207 #[.string s,.string ⟨#[c]⟩] w fun e w'=>e = .returned (.string ⟨(Lib.trimB s.data.toList c).toArray⟩) /\ Q w w':=by
 refine (Any.strings_Trim_one shelfTrim s c hc w hs).mono ?_;rintro e w' ⟨rfl,h⟩;refine ⟨rfl,?_⟩;rcases h with rfl | rfl
 ·exact Q.refl _
 ·exact (Q.refl _).drew
open Go.RowKit Go.Lib in
theorem trimLeft_any (s:ByteArray) (c:UInt8) (hc:c.toNat < 128) (w:World) :
  Calls Tryz.prog 208 #[.string s,.string ⟨#[c]⟩] w fun e w'=>e = .returned (.string ⟨(Lib.trimLeftB s.data.toList c).toArray⟩) /\ w = w' :=
 (Any.strings_TrimLeft_one shelfTrimLeft s c hc w).mono fun e w' h=>⟨h.1,h.2.symm⟩
open Go.RowKit Go.Lib in
theorem count_any (s:ByteArray) (c:UInt8) (w:World) :
  Calls Tryz.prog 196 #[.string s,.string ⟨#[c]⟩] w fun e w'=>e = .returned (.int .i64 (Lib.countByte s.data.toList c)) /\ w = w' :=
 (Any.strings_Count_one shelfCount s c w).mono fun e w' h=>⟨h.1,h.2.symm⟩
end Sp
end
section
open Go.RowKit
def runL (P:Program):List Oper -> Act × World -> Option (Act × World)
 | [],x=>some x
 | o :: r,x=>match o.guard with
  | some _=>none
  | none=>match (execOp x.1.eval o).run P x.2 with
   | .ok (.value v) w'=>runL P r (x.1.put o.dst v,w')
   | _=>none
theorem wpList_runL {P:Program} {ops:Array Oper} {R:Exit -> Act -> World -> Prop}:∀ (l:List Oper) (x y:Act × World),runL P l x = some y -> R .normal y.1 y.2 -> wpList P ops R l x.1 x.2:=by
 intro l;induction l with
 | nil=>intro x y h hR;cases h;exact hR
 | cons o l ih =>
  intro x y h hR;unfold runL at h;cases hg:o.guard with
  | some g=>rw [hg] at h;cases h
  | none =>
   rw [hg] at h;simp only at h;refine wpList_plain hg fun K hK=>?_;unfold Oper.wp;split at h
   ·rename_i v w' he
    rw [he];exact hK _ _ (ih _ _ h hR)
   ·cases h
def runF (P:Program) (fn:Func) (l0 l1:List Oper) (w:World):Option (Value × World × World) :=
 ((runL P l0 ({ tmps:=#[] ++ Array.replicate (fn.ntmps - 0) undef,defers:=[] },w)).bind (runL P l1)).bind fun x =>
  match x.1.defers with
  | []=>match (results fn x.1.tmps).run P x.2 with
   | .ok v w'=>some (v,x.2,w')
   | _=>none
  | _=>none
theorem calls_runF {P:Program} {f:FuncId} {fn:Func} {i0 i1:Nat} {o0 o1:Array Oper} {w W:World} {v:Value} {R:Ending -> World -> Prop}
  (hf:P.funcs[f]? = some fn) (hb:fn.body = some ((Code.region i0 o0 false).seq ((Code.region i1 o1 false).seq Code.ret)))
  (hrun:runF P fn o0.toList o1.toList w = some (v,W,W)) (hR:R (.returned v) W):Calls P f #[] w R:=by
 refine calls_of_wp hf hb ?_;unfold runF at hrun;rw [Option.bind_eq_some_iff] at hrun;obtain ⟨y,hy,hrun⟩:=hrun;rw [Option.bind_eq_some_iff] at hy;obtain ⟨x,hx,hy⟩:=hy;apply wp_seq_k;intro K hK;apply wp_region_list;refine wpList_runL _ (_,w) x hx ?_;refine hK _ _ ?_;apply wp_seq_k;intro K2 hK2;apply wp_region_list;refine wpList_runL _ (_,_) y hy ?_;refine hK2 _ _ ?_;apply wp_ret;split at hrun
 ·rename_i hd
  split at hrun
  ·rename_i v' w' hr
   cases hrun;exact bodyPost_ret hr hd hR
  ·cases hrun
 ·cases hrun
end
section
open Go.RowKit
namespace It
theorem rends_any (l p s:Int) (w:World) (l0:-1000000 <= l) (l1:l <= 1000000) (p0:p <= 1000000) (s0:s <= 1000000) :
  Calls Tryz.prog 82 #[.int .i64 l,.int .i64 p,.int .i64 s] w fun e w'=>e = .returned (.bool (Im.endB l p s)) /\ w = w':=by
 by_cases h1:l < 1
 ·have HE:=Hd (Im.endB_low (p:=p) (s:=s) (show l <= 0 by omega))
  go_enter Tryz.func82,Tryz.ntmps82
  go_wp2_with fail
  go_ret
  rw [HE.out];exact ⟨rfl,rfl⟩
 ·by_cases h2:p < 1
  ·have HE:=Hd (show Im.endB l p s = false by unfold Im.endB;rw [show decide (1 <= p /\ p <= l) = false from by simp;omega];rfl)
   go_enter Tryz.func82,Tryz.ntmps82
   go_wp2_with fail
   go_ret
   rw [HE.out];exact ⟨rfl,rfl⟩
  ·have HL:=Hd (fun n=>@Im.end_loop l p s n (show 1 <= p by omega))
   go_enter Tryz.func82,Tryz.ntmps82
   go_wp2_with fail
   go_loop [7] (fun u=>∃ n:Int,u = .int .i64 n /\ p <= n /\ n <= 2000000 /\ (n = p \/ (n < l + s /\ 0 < s)) /\ Hid (0 < s -> (n - p) % s = 0)) (fun u=>(l - intOf u).toNat)
   case atStart=>exact ⟨p,rfl,by omega,by omega,.inl rfl,Hd (fun _=>by simp)⟩
   case round =>
    obtain ⟨n,rfl,hn,hn2,hb,hd⟩:=hrel;by_cases hlt:n < l
    ·by_cases hs:0 < s
     ·have HD:=Hd (show 0 < s -> (n + s - p) % s = 0 from fun h=>by
       rw [show n + s - p = (n - p) + s from by omega,Int.add_emod_right];exact hd.out h)
      clear hd;go_wp2_with fail
      exact ⟨⟨n + s,by go_num,by omega,by omega,.inr ⟨by omega,hs⟩,HD⟩,by simp [intOf];omega⟩
     ·have HE:=Hd (HL.out n hn hd.out (fun _=>by omega) (by omega) (.inr (by omega)))
      have hne:(n == l) = false:=by rw [beq_eq_false_iff_ne];omega
      have HF:=Hd (show decide (n = l) = false by simp;omega);clear hd;go_wp2_with fail
      go_ret
      rw [HE.out,HF.out];exact ⟨rfl,rfl⟩
    ·have HE:=Hd (HL.out n hn hd.out (fun _=>by omega) (by omega) (.inl (by omega)))
     clear hd;by_cases hnl:n = l
     ·have HF:=Hd (show decide (n = l) = true by simpa using hnl)
      have hne:(n == l) = true:=by simpa using hnl
      go_wp2_with fail
      go_ret
      rw [HE.out,HF.out];exact ⟨by simp [hnl],rfl⟩
     ·have HF:=Hd (show decide (n = l) = false by simpa using hnl)
      have hne:(n == l) = false:=by rw [beq_eq_false_iff_ne];exact hnl
      go_wp2_with fail
      go_ret
      rw [HE.out,HF.out];exact ⟨by simp [hnl],rfl⟩
end It
end
namespace Dm
def lsv (l:List Int):Int:=l.foldr (fun d n=>d + 10 * n) 0
theorem lsv_cons (d:Int) (l:List Int):lsv (d :: l) = d + 10 * lsv l:=rfl
theorem num_rev (l:List Int) (h:okD l):(num l.reverse:Int) = lsv l:=by
 induction l with
 | nil=>rfl
 | cons d l ih =>
  rw [okD_cons] at h;rw [List.reverse_cons,num_snoc,lsv_cons,<- ih h.2];omega
def zer (l:List Int):Nat:=(l.takeWhile (· == 0)).length
theorem zer_cons0 (l:List Int):zer (0 :: l) = zer l + 1:=by unfold zer;rw [List.takeWhile_cons_of_pos (by simp)];rfl
theorem zer_cons (d:Int) (l:List Int) (h:d ≠ 0):zer (d :: l) = 0:=by unfold zer;rw [List.takeWhile_cons_of_neg (by simpa using h)];rfl
theorem trim_drop (l:List Int):trimL l = l.drop (zer l):=by
 induction l with
 | nil=>rfl
 | cons d l ih =>
  by_cases h:d = 0
  ·subst h
   rw [zer_cons0,List.drop_succ_cons,<- ih];unfold trimL;rw [List.dropWhile_cons_of_pos (by simp)]
  ·rw [zer_cons d l h];unfold trimL;rw [List.dropWhile_cons_of_neg (by simpa using h)];rfl
def RV (xs:List Int) (k:Nat) (zs:List Int):Prop:=zs.length = xs.length /\ ∀ j,j < xs.length -> zs.getD j 0 = if j < k \/ xs.length - k <= j then xs.getD (xs.length - 1 - j) 0 else xs.getD j 0
theorem RV.done {xs zs:List Int} {k:Nat} (h:RV xs k zs) (hk:xs.length <= 2 * k + 1) (hk2:2 * k <= xs.length):zs = xs.reverse:=by
 apply List.ext_getElem
 ·rw [List.length_reverse];exact h.1
 ·intro j h1 h2
  have h3:=h.2 j (by rw [<- h.1];exact h1);rw [List.getD_eq_getElem?_getD,List.getElem?_eq_getElem h1,Option.getD_some] at h3;rw [h3,List.getElem_reverse];have hl:j < xs.length:=by rw [<- h.1];exact h1
  have e:xs.getD (xs.length - 1 - j) 0 = xs[xs.length - 1 - j]:=by
   rw [List.getD_eq_getElem?_getD,List.getElem?_eq_getElem (by omega),Option.getD_some]
  by_cases hc:j < k \/ xs.length - k <= j
  ·rw [if_pos hc,e]
  ·rw [if_neg hc,<- e]
   rw [show xs.length - 1 - j = j from by omega]
theorem getD_set (zs:List Int) (i j:Nat) (x:Int) (hi:i < zs.length):(zs.set i x).getD j 0 = if i = j then x else zs.getD j 0:=by
 rw [List.getD_eq_getElem?_getD,List.getD_eq_getElem?_getD,List.getElem?_set];by_cases h:i = j
 ·subst h
  rw [if_pos rfl,if_pos hi,if_pos rfl];rfl
 ·rw [if_neg h,if_neg h]
theorem RV.step {xs zs:List Int} {k m:Nat} (h:RV xs k zs) (hm:m + 1 + k = xs.length) (hkm:k < m):RV xs (k + 1) ((zs.set k (zs.getD m 0)).set m (zs.getD k 0)):=by
 refine ⟨by rw [List.length_set,List.length_set];exact h.1,fun j hj=>?_⟩;have hl:=h.1;have h1:=h.2 k (by omega);have h2:=h.2 m (by omega);have h3:=h.2 j hj;rw [if_neg (by omega)] at h1 h2;rw [getD_set _ _ _ _ (by rw [List.length_set];omega),getD_set _ _ _ _ (by omega),h1,h2,h3];by_cases e1:m = j
 ·subst e1
  rw [if_pos rfl,if_pos (by omega),show xs.length - 1 - m = k from by omega]
 ·rw [if_neg e1]
  by_cases e2:k = j
  ·subst e2
   rw [if_pos rfl,if_pos (by omega),show xs.length - 1 - k = m from by omega]
  ·rw [if_neg e2]
   by_cases e3:j < k \/ xs.length - k <= j
   ·rw [if_pos e3,if_pos (by omega)]
   ·rw [if_neg e3,if_neg (by omega)]
theorem settled (l:List Int) (h:okD l) (T:Nat) (hT:lsv l + 10 ^ l.length * 0 = T):dg T = l.reverse.drop (zer l.reverse):=by
 rw [<- trim_drop,trim_num (n:=T) (fun d hd=>h d (by simpa using hd))];have:=num_rev l h;omega
end Dm
section
open Go.RowKit
def GLst {α:Type} (en:α -> Value) (w:World) (v:Value) (zs:List α):Prop :=
 (zs = [] /\ ∃ a c,v = .slice a 0 c /\ c <= maxLen /\ (a = none -> c = 0)) \/
 ∃ g off cap,v = .slice (some ⟨g,off,none⟩) zs.length cap /\ g < w.heap.size /\ zs.length <= cap /\ cap <= maxLen /\ ∀ i x,zs[i]? = some x -> w.cell? ⟨g,off + i,none⟩ = some (en x)
theorem GLst.nil {α:Type} (en:α -> Value) (w:World) (a:Option Addr) (c:Nat) (hc:c <= maxLen) (hn:a = none -> c = 0):GLst en w (.slice a 0 c) []:=.inl ⟨rfl,a,c,rfl,hc,hn⟩
theorem GLst.q {α:Type} {en:α -> Value} {w w':World} {v:Value} {zs:List α} (h:GLst en w v zs) (hq:Q w w'):GLst en w' v zs:=by
 rcases h with h | ⟨g,off,cap,hv,hg,h1,h2,hc⟩
 ·exact .inl h
 ·refine .inr ⟨g,off,cap,hv,Nat.lt_of_lt_of_le hg hq.le,h1,h2,fun i x hi=>?_⟩
  rw [World.cell?_of_block (w:=w) (hq.block hg)];exact hc i x hi
theorem GLst.shape2 {α:Type} {en:α -> Value} {w:World} {v:Value} {zs:List α} (h:GLst en w v zs):∃ a c,v = .slice a zs.length c /\ zs.length <= c /\ c <= maxLen:=by
 rcases h with ⟨rfl,a,c,rfl,hc,_⟩ | ⟨g,off,cap,hv,_,h1,h2,_⟩
 ·exact ⟨a,c,rfl,Nat.zero_le _,hc⟩
 ·exact ⟨_,_,hv,h1,h2⟩
theorem GLst.shape {α:Type} {en:α -> Value} {w:World} {v:Value} {zs:List α} (h:GLst en w v zs):∃ a c,v = .slice a zs.length c:=by
 obtain ⟨a,c,hv,_⟩:=h.shape2;exact ⟨a,c,hv⟩
theorem GLst.form0 {α:Type} {en:α -> Value} {w:World} {v:Value} {zs:List α} {n:Nat} (h:GLst en w v zs) (hn:zs.length = n):∃ a c,v = .slice a n c /\ n <= c /\ c <= maxLen:=by
 subst hn;exact h.shape2
theorem GLst.cellOf {α:Type} {en:α -> Value} {w:World} {v:Value} {zs:List α} {n k:Nat} {x:α} (h:GLst en w v zs) (hn:zs.length = n) (hk:zs[k]? = some x) :
  ∃ g off cap,v = .slice (some ⟨g,off,none⟩) n cap /\ g < w.heap.size /\ n <= cap /\ cap <= maxLen /\ w.cell? ⟨g,off + k,none⟩ = some (en x):=by
 rcases h with ⟨rfl,_⟩ | ⟨g,off,cap,hv,hg,h1,h2,hc⟩
 ·simp at hk
 ·rw [hn] at hv h1
  exact ⟨g,off,cap,hv,hg,h1,h2,hc k x hk⟩
def GOwn {α:Type} (T:TypeId) (en:α -> Value) (w:World) (B:Nat) (v:Value) (zs:List α):Prop:=w.ownsRow B T 1 v zs.length (zs.map en)
theorem GOwn.nil {α:Type} (T:TypeId) (en:α -> Value) (w:World) (B:Nat):GOwn T en w B (.slice none 0 0) []:=World.ownsRow_nil w B T 1
theorem GOwn.mono {α:Type} {T:TypeId} {en:α -> Value} {w:World} {B B':Nat} {v:Value} {zs:List α} (h:GOwn T en w B v zs) (hB:B' <= B):GOwn T en w B' v zs:=by
 obtain ⟨h1,h2⟩:=h;refine ⟨h1,?_⟩;rcases h2 with h2 | ⟨g,cap,cur,hv,hg,r⟩
 ·exact .inl h2
 ·exact .inr ⟨g,cap,cur,hv,by omega,r⟩
theorem GOwn.same {α:Type} {T:TypeId} {en:α -> Value} {w w':World} {B:Nat} {v:Value} {zs:List α} (h:GOwn T en w B v zs) (hs:∀ g,v.ownBlock = some g -> w'.heap[g]? = w.heap[g]?):GOwn T en w' B v zs:=by
 obtain ⟨h1,h2⟩:=h;refine ⟨h1,?_⟩;rcases h2 with h2 | ⟨g,cap,cur,hv,hg,hh,r⟩
 ·exact .inl h2
 ·exact .inr ⟨g,cap,cur,hv,hg,by rw [hs g (by rw [hv];rfl)];exact hh,r⟩
theorem GOwn.lt {α:Type} {T:TypeId} {en:α -> Value} {w:World} {B:Nat} {v:Value} {zs:List α} (h:GOwn T en w B v zs):∀ g,v.ownBlock = some g -> B <= g /\ g < w.heap.size:=World.ownsRow.lt h
theorem GOwn.q {α:Type} {T:TypeId} {en:α -> Value} {w w':World} {B:Nat} {v:Value} {zs:List α} (h:GOwn T en w B v zs) (hq:Q w w'):GOwn T en w' B v zs:=h.same fun g hg=>hq.block (h.lt g hg).2
theorem GOwn.gap {α:Type} {T:TypeId} {en:α -> Value} {w w':World} {B lo hi:Nat} {v:Value} {zs:List α} (h:GOwn T en w B v zs) (hg:Gap lo hi w w') (ho:∀ g,v.ownBlock = some g -> g < lo \/ hi <= g):GOwn T en w' B v zs :=
 h.same fun g hv=>hg.block g (h.lt g hv).2 (ho g hv)
theorem GOwn.cells {α:Type} {T:TypeId} {en:α -> Value} {w:World} {B:Nat} {v:Value} {zs:List α} (h:GOwn T en w B v zs):∀ g,v.ownBlock = some g -> ∃ cur,w.heap[g]? = some (.cells cur T (0,0)):=by
 intro g hg;rcases h.2 with ⟨rfl,_⟩ | ⟨g',cap,cur,rfl,_,hh,_⟩
 ·cases hg
 ·cases hg;exact ⟨cur,hh⟩
theorem GOwn.lst {α:Type} {T:TypeId} {en:α -> Value} {w:World} {B:Nat} {v:Value} {zs:List α} (h:GOwn T en w B v zs):GLst en w v zs:=by
 rcases h.2 with ⟨hv,hn⟩ | ⟨g,cap,cur,hv,_,hh,hnc,hcm,hcs,ht⟩
 ·have:zs = []:=List.eq_nil_of_length_eq_zero hn
  subst this;subst hv;exact .nil _ _ _ _ (by unfold maxLen;omega) (fun _=>rfl)
 ·refine .inr ⟨g,0,cap,hv,(Array.getElem?_eq_some_iff.1 hh).1,hnc,hcm,fun i x hx=>?_⟩
  have hi:i < zs.length:=(List.getElem?_eq_some_iff.1 hx).1;rw [cell_of_row w g (0 + i) cur T (0,0) hh];have h1:=congrArg (fun l=>l[i]?) ht;simp only [List.getElem?_map,Nat.mul_one] at h1;rw [List.getElem?_take,if_pos hi,hx] at h1;rw [Nat.zero_add,<- Array.getElem?_toList,h1];rfl
theorem GOwn.shape {α:Type} {T:TypeId} {en:α -> Value} {w:World} {B:Nat} {v:Value} {zs:List α} (h:GOwn T en w B v zs):∃ a c,v = .slice a zs.length c:=h.lst.shape
theorem GLst.made {α:Type} (en:α -> Value) (T:TypeId) (w:World) (zs:List α) (n:Nat) (hn:zs.length = n) (hm:n <= maxLen):GLst en (w.alloc (.cells (zs.map en).toArray T)) (.slice (some ⟨w.heap.size,0,none⟩) n n) zs:=by
 subst hn;refine .inr ⟨w.heap.size,0,zs.length,rfl,by simp,Nat.le_refl _,hm,fun i x hi=>?_⟩;rw [World.cell?_alloc_at _ _ _ _ rfl,Nat.zero_add];simp only [List.getElem?_toArray,List.getElem?_map,hi];rfl
structure Elem (T ST:TypeId) (z:Value) (bytes:Nat):Prop where
 info:(Tryz.prog.info? T).map (fun i=>(i.zero,i.size,i.bytes)) = some (some z,1,bytes)
 under:Tryz.prog.underlying ST = some (.slice T)
 one:z.cells.size = 1
 small:bytes <= 64
theorem gpush {α:Type} {T ST:TypeId} {z:Value} {bytes:Nat} (he:Elem T ST z bytes) {en:α -> Value} {w:World} {B:Nat} {v:Value} {zs:List α} (hown:GOwn T en w B v zs) {ops:Array Oper} {rest:List Oper} {o:Oper} {a:Act} {R:Exit -> Act -> World -> Prop} (hgd:o.guard = none) (s x:Operand)
  (ho:o.op = .call { callee:=.builtin .append,args:=#[s,x],argTypes:=#[ST,ST] })
  (y:α) (h1c:(en y).oneCell' = true) (hs:a.eval s = v) (hx:a.eval x = .slice (some ⟨w.heap.size,0,none⟩) 1 1) (hlen:zs.length < 1099511627776) (hB:B <= w.heap.size)
  (h:∀ v' w',GOwn T en w' B v' (zs ++ [y]) -> w.grownBy w' v.ownBlock -> (v'.ownBlock = v.ownBlock \/ v'.ownBlock = some (w.heap.size + 1)) -> wpList Tryz.prog ops R rest (a.put o.dst v') w') :
  wpList Tryz.prog ops R (o :: rest) a (w.alloc (.cells #[en y] T)):=by
 obtain ⟨i0,hi,hz0,hz1,hz2⟩:=info_parts he.info;refine wpList_append_own_at _ hgd s x ST ho B T i0 z 1 bytes he.under hi hz0 hz1 hz2 he.one (by decide) v zs.length _ hs (World.ownsRow.alloc hown _)
  ⟨w.heap.size,0,none⟩ 1 1 [en y] hx rfl (cell_one_new _ _ _) ?_ ?_ ?_ ?_ ?_
 ·intro u hu;simp at hu;subst hu;exact h1c
 ·unfold maxLen;omega
 ·have h1:(zs.length + 1) * bytes <= (zs.length + 1) * 64:=Nat.mul_le_mul_left _ he.small
  omega
 ·simp;omega
 ·intro v' w' hown' hg _ hat
  refine h v' w' ?_ ?_ ?_
  ·have e1:(zs ++ [y]).length = zs.length + 1:=by simp
   unfold GOwn;rw [e1,List.map_append];exact hown'
  ·exact (World.grownBy_alloc w _ _).trans hg
  ·simpa using hat
theorem gpushl {α:Type} {T ST:TypeId} {z:Value} {bytes:Nat} (he:Elem T ST z bytes) {en:α -> Value} (h1c:∀ y,(en y).oneCell' = true) {w:World} {B:Nat} {v u:Value} {zs ys:List α} (hown:GOwn T en w B v zs) (hu:GLst en w u ys) {ops:Array Oper} {rest:List Oper} {o:Oper} {a:Act} {R:Exit -> Act -> World -> Prop} (hgd:o.guard = none) (s x:Operand)
  (ho:o.op = .call { callee:=.builtin .append,args:=#[s,x],argTypes:=#[ST,ST] })
  (hs:a.eval s = v) (hx:a.eval x = u) (hlen:zs.length + ys.length < 1099511627776) (hB:B <= w.heap.size)
  (h:∀ v' w',GOwn T en w' B v' (zs ++ ys) -> w.grownBy w' v.ownBlock -> (v'.ownBlock = v.ownBlock \/ v'.ownBlock = some w.heap.size) -> wpList Tryz.prog ops R rest (a.put o.dst v') w') :
  wpList Tryz.prog ops R (o :: rest) a w:=by
 obtain ⟨i0,hi,hz0,hz1,hz2⟩:=info_parts he.info;have key:∀ (ad:Addr) (m c:Nat),u = .slice (some ad) m c -> ys.length = m -> (∀ j x,(ys.map en)[j]? = some x -> w.cell? (ad.add j) = some x) -> wpList Tryz.prog ops R (o :: rest) a w:=by
  intro ad m c hu hm hc;subst hu;subst hm;refine wpList_append_own_at _ hgd s x ST ho B T i0 z 1 bytes he.under hi hz0 hz1 hz2 he.one (by decide) v zs.length _ hs hown
   ad ys.length c (ys.map en) hx (by simp) hc ?_ ?_ ?_ hB ?_
  ·intro u hu
   obtain ⟨y,_,rfl⟩:=List.mem_map.1 hu;exact h1c y
  ·unfold maxLen;omega
  ·have h1:(zs.length + ys.length) * bytes <= (zs.length + ys.length) * 64:=Nat.mul_le_mul_left _ he.small
   omega
  ·intro v' w' hown' hg _ hat
   refine h v' w' ?_ hg hat;have e1:(zs ++ ys).length = zs.length + ys.length:=by simp
   unfold GOwn;rw [e1,List.map_append];exact hown'
 rcases hu with ⟨rfl,ad,c,rfl,hc,hn⟩ | ⟨g,off,cap,hv,hg,h1,h2,hc⟩
 ·cases ad with
  | none =>
   obtain rfl:=hn rfl;refine wpList_append_own_none hgd s x ST ho B T i0 1 he.under hi v zs.length _ hs hown hx ?_;exact h v w (by rw [List.append_nil];exact hown) ⟨rfl,rfl,rfl,Nat.le_refl _,fun _ _ _=>rfl⟩ (.inl rfl)
  | some ad=>exact key ad 0 c rfl rfl (by simp)
 ·refine key ⟨g,off,none⟩ ys.length cap hv rfl fun j x hj=>?_
  have hadd:(⟨g,off,none⟩:Addr).add j = ⟨g,off + j,none⟩:=by unfold Addr.add;split <;> simp_all
  rw [List.getElem?_map] at hj;obtain ⟨y,hy,rfl⟩:=Option.map_eq_some_iff.1 hj;rw [hadd,hc j y hy]
abbrev SLst (w:World) (v:Value) (zs:List ByteArray):Prop:=GLst Value.string w v zs
abbrev SOwn (w:World) (B:Nat) (v:Value) (zs:List ByteArray):Prop:=GOwn 9 Value.string w B v zs
theorem elemS:Elem 9 35 (.string ByteArray.empty) 16:=⟨by kernel_rfl,Tryz.underlying35,rfl,by omega⟩
theorem str_ne {p q:ByteArray} (h:p ≠ q):(p.toList == q.toList) = false:=by
 rw [beq_eq_false_iff_ne,ByteArray.toList_eq,ByteArray.toList_eq];intro e;apply h;cases p with | mk x=>cases q with | mk y =>
  rw [ByteArray.mk.injEq];exact Array.toList_inj.1 e
theorem oneS (s:ByteArray):(Value.string s).oneCell' = true:=rfl
end
section
open Go.RowKit Go.Shelf
structure Stand (S:Nat -> Prop) (A A':World):Prop where
 size:A.heap.size <= A'.heap.size
 block:∀ k,k < A.heap.size -> S k -> A'.heap[k]? = A.heap[k]?
theorem Stand.refl (S:Nat -> Prop) (A:World):Stand S A A:=⟨Nat.le_refl _,fun _ _ _=>rfl⟩
theorem Stand.trans {S:Nat -> Prop} {A B C:World} (h:Stand S A B) (k:Stand S B C):Stand S A C :=
 ⟨Nat.le_trans h.size k.size,fun i hi hs=>(k.block i (Nat.lt_of_lt_of_le hi h.size) hs).trans (h.block i hi hs)⟩
theorem Stand.mono {S T:Nat -> Prop} {A B:World} (h:Stand S A B) (ht:∀ k,T k -> S k):Stand T A B:=⟨h.size,fun k hk hs=>h.block k hk (ht k hs)⟩
theorem Q.stand {A B:World} (h:Q A B) (S:Nat -> Prop):Stand S A B:=⟨h.size,fun k hk _=>h.block hk⟩
theorem Stand.putObj (S:Nat -> Prop) (A:World) (l:Nat) (o:Obj) (hl:¬ S l):Stand S A (A.putObj l o) :=
 ⟨by simp,fun k hk hs=>World.putObj_heap_other (fun e=>hl (e ▸ hs))⟩
theorem Stand.setCell (S:Nat -> Prop) (A:World) (b o:Nat) (v:Value) (hb:¬ S b):Stand S A (A.setCell ⟨b,o,none⟩ v) :=
 ⟨by simp [World.setCell],fun k hk hs=>Below.heap_setCell _ _ _ _ (by show k ≠ b;intro e;exact hb (e ▸ hs))⟩
theorem Stand.grown {S:Nat -> Prop} {A B:World} {row:Option Nat} (hg:A.grownBy B row) (hr:∀ k,row = some k -> ¬ S k):Stand S A B :=
 ⟨hg.size,fun k hk hs=>hg.block k hk (fun e=>hr k e.symm hs)⟩
theorem Stand.heap {S:Nat -> Prop} {A B:World} (h:Stand S A B) {k:Nat} {o:Obj} (hs:S k) (ho:A.heap[k]? = some o):B.heap[k]? = some o :=
 (h.block k (Array.getElem?_eq_some_iff.1 ho).1 hs).trans ho
def roundPost2 {α:Type} (S:Nat -> Prop) (I:List α -> World -> Prop) (Ix:Code -> List α -> World -> Prop) (xs:List α) (W:World):Exit -> Act -> World -> Prop
 | .normal,_,W'=>Stand S W W' /\ I xs W'
 | .ret,_,W'=>Stand S W W' /\ Ix .ret xs W'
 | .exit id,_,W'=>Stand S W W' /\ Ix (.exit id) xs W'
 | .goto t,_,W'=>Stand S W W' /\ Ix (.goto t) xs W'
 | .panic _,_,_=>False
 | .outgrown,_,_=>False
def Iter {α:Type} (g:Nat) (lb:Array Value) (encs:α -> Array Value) (lo hi:Nat) (S:Nat -> Prop) (Pre All:List α -> Prop) (W0:World):Prop :=
 ∀ (l:Nat) (J Jx:List α -> World -> Prop) (W:World),W.heap.size = lo -> Q W0 W ->
  (∀ s A A',J s A -> Gap lo hi A A' -> J s A') ->
  (∀ pre x A,J pre A -> hi <= A.heap.size -> Pre (pre ++ [x]) -> YieldAt Fence.wide 0 Tryz.prog l (encs x) A fun e A' =>
   (e = .returned (.bool true) /\ J (pre ++ [x]) A' /\ Stand S A A') \/ (e = .returned (.bool false) /\ Jx (pre ++ [x]) A')) ->
  J [] W ->
  CallsIn Fence.wide 0 Tryz.prog g (#[.func (.yield l) #[] #[]] ++ lb) W fun e W'=>(∃ v,e = .returned v) /\ ((∃ xs,All xs /\ J xs W') \/ (∃ pre,Pre pre /\ Jx pre W'))
theorem range_any {α:Type} {g:Operand} {ps:Array Tmp} {assign body:Code} {R:Exit -> Act -> World -> Prop} {a:Act} {w:World}
  {gf:Nat} {lb:Array Value} (hg:a.eval g = .func (.func gf) #[] lb) (eg:∀ args w,(callFunc gf args).run Tryz.prog w = .ok (.enter gf args) w)
  {encs:α -> Array Value} (hps:∀ x,(encs x).size = ps.size) {hi:Nat} {S:Nat -> Prop} {Pre All:List α -> Prop}
  (hit:Iter gf lb encs (w.heap.size + 1 + 1) hi S Pre All w) (hS:¬ S (w.heap.size + 1)) (hhi:w.heap.size + 1 < hi)
  (I:List α -> World -> Prop) (Ix:Code -> List α -> World -> Prop)
  (hI:∀ s A A',I s A -> Gap w.heap.size hi A A' -> I s A') (hIx:∀ c s A A',Ix c s A -> Gap w.heap.size hi A A' -> Ix c s A') (h0:I [] w) (a₁:α -> Act)
  (hassign:∀ (l:Nat) (x:α) (W:World) (K:Act -> World -> Prop),K (a₁ x) W ->
   assign.wpIn (Fence.wide.inRound l) 0 Tryz.prog (Exit.then K (fun _ _ _=>False)) { tmps:=(ps.zip (encs x)).foldl (fun t (p,v)=>t.setIfInBounds p v) a.tmps,defers:=[] } W)
  (hbody:∀ (l:Nat) (pre:List α) (x:α) (W:World),I pre W -> hi <= W.heap.size -> Pre (pre ++ [x]) ->
   body.wpIn (Fence.wide.inRound l) 0 Tryz.prog (roundPost2 (fun k=>S k \/ k = w.heap.size \/ k = w.heap.size + 1) I Ix (pre ++ [x]) W) (a₁ x) W)
  (hdone:∀ (xs:List α) (W:World),All xs -> I xs W -> W.heap[w.heap.size]? = some (.deferred (some [])) -> R .normal { a with defers:={ target:=.collected w.heap.size,args:=#[] } :: a.defers } W)
  (hstop:∀ (c:Code) (pre:List α) (W:World),Pre pre -> Ix c pre W -> W.heap[w.heap.size]? = some (.deferred (some [])) -> c.wpIn Fence.wide 0 Tryz.prog R { a with defers:={ target:=.collected w.heap.size,args:=#[] } :: a.defers } W) :
  (Code.rangeFunc g ps assign body).wpIn Fence.wide 0 Tryz.prog R a w:=by
 refine wpIn_rangeFunc fun fn _=>?_;obtain ⟨rec,hrec⟩:∃ rec:LoopState -> Option Code -> Obj,rec = fun st pe=>.loop { state:=st,pending:=pe,fn,tmps:=a.tmps,params:=ps,assign,body,defers:=w.heap.size }:=⟨_,rfl⟩;have hout:=run_enterLoop_outer (P:=Tryz.prog) (w:=w) fn a.tmps ps assign body;obtain ⟨W1,hW1⟩:∃ W1,W1 = (w.alloc (.deferred (some []))).alloc (rec .ready none):=⟨_,rfl⟩;have hq1:Q w W1:=by rw [hW1];exact ((Q.refl w).alloc _).alloc _
 have hz1:W1.heap.size = w.heap.size + 1 + 1:=by rw [hW1];simp
 have hl1:W1.heap[w.heap.size + 1]? = some (rec .ready none):=by
  rw [hW1];have:=World.alloc_heap_new (w.alloc (.deferred (some []))) (rec .ready none);rwa [World.size_alloc] at this
 have hd1:W1.heap[w.heap.size]? = some (.deferred (some [])):=by
  rw [hW1];exact (Below.heap_alloc _ _ _ (by simp)).trans (World.alloc_heap_new w _)
 have turn:∀ (A:World) (o:Obj),Gap w.heap.size hi A (A.putObj (w.heap.size + 1) o):=fun A o=>Gap.putObj A _ o _ _ (by omega) hhi;refine ⟨w.heap.size + 1,[{ target:=.collected w.heap.size,args:=#[] }],W1,{ target:=.fn (.func gf) lb,args:=#[.func (.yield (w.heap.size + 1)) #[] #[]] },W1,gf,
  #[.func (.yield (w.heap.size + 1)) #[] #[]] ++ lb,W1,?_,?_,(fun _ _=>trivial),?_,(fun h=>nomatch h),?_⟩
 ·rw [hW1,hrec];exact hout
 ·simp only [resolve,hg]
  simp [go_sem]
 ·simp [invoke,go_sem,eg]
 ·refine (hit (w.heap.size + 1)
   (fun pre W=>I pre W /\ W.heap[w.heap.size + 1]? = some (rec .ready none) /\ W.heap[w.heap.size]? = some (.deferred (some [])))
   (fun pre W=>∃ c,Ix c pre W /\ W.heap[w.heap.size + 1]? = some (rec .done (some c)) /\ W.heap[w.heap.size]? = some (.deferred (some [])))
   W1 hz1 hq1 ?_ ?_ ⟨hI _ _ _ h0 (hq1.gap _ _),hl1,hd1⟩).mono ?_
  ·rintro s A A' ⟨h1,h2,h3⟩ hgap
   exact ⟨hI _ _ _ h1 (hgap.mono (by omega) (Nat.le_refl _)),(hgap.block _ (Array.getElem?_eq_some_iff.1 h2).1 (.inl (by omega))).trans h2,(hgap.block _ (Array.getElem?_eq_some_iff.1 h3).1 (.inl (by omega))).trans h3⟩
  ·rintro pre x A ⟨h1,h2,h3⟩ hz hpre
   have hlt:=(Array.getElem?_eq_some_iff.1 h2).1;rw [hrec] at h2;have hy:=run_yield (P:=Tryz.prog) (args:=encs x) h2 (hps x);refine ⟨fn,_,assign,body,hy,roundIn_of_wpIn trivial (hassign _ x A _ ⟨_,run_beginRound h2 rfl,?_⟩)⟩;have h4:=World.putObj_heap_same (w:=A) (o:=rec .busy none) hlt;have h5:(A.putObj (w.heap.size + 1) (rec .busy none)).heap[w.heap.size]? = some (.deferred (some [])):=(World.putObj_heap_other (by omega)).trans h3;have hs:=Stand.putObj S A (w.heap.size + 1) (rec .busy none) hS;rw [hrec] at h4 h5 hs;have hb:=hbody (w.heap.size + 1) pre x _ (hI _ _ _ h1 (turn A (rec .busy none))) (by simpa using hz) hpre;rw [hrec] at hb;refine wpIn_mono hb ?_;have fin:∀ (jump:Option Code) (W3:World),Stand (fun k=>S k \/ k = w.heap.size \/ k = w.heap.size + 1) (A.putObj (w.heap.size + 1) (rec .busy none)) W3 ->
     (Instr.endRound (w.heap.size + 1) jump).run Tryz.prog W3 = .ok (.bool jump.isNone) (W3.putObj (w.heap.size + 1) (rec (if jump.isNone then .ready else .done) jump)) /\
     (W3.putObj (w.heap.size + 1) (rec (if jump.isNone then .ready else .done) jump)).heap[w.heap.size + 1]? = some (rec (if jump.isNone then .ready else .done) jump) /\
     (W3.putObj (w.heap.size + 1) (rec (if jump.isNone then .ready else .done) jump)).heap[w.heap.size]? = some (.deferred (some [])) /\
     Stand S A (W3.putObj (w.heap.size + 1) (rec (if jump.isNone then .ready else .done) jump)):=by
    intro jump W3 hk;rw [hrec] at hk |-;have h6:=hk.heap (.inr (.inr rfl)) h4;have h7:=hk.heap (.inr (.inl rfl)) h5;exact ⟨run_endRound (P:=Tryz.prog) jump h6,World.putObj_heap_same (Array.getElem?_eq_some_iff.1 h6).1,(World.putObj_heap_other (by omega)).trans h7,
     (hs.trans (hk.mono fun k h=>.inl h)).trans (Stand.putObj S _ _ _ hS)⟩
   rw [hrec] at fin;rw [hrec];intro e a3 W3 hp;cases e with
   | normal =>
    obtain ⟨hk,hi3⟩:=hp;obtain ⟨f1,f2,f3,f4⟩:=fin none W3 hk;exact ⟨_,_,f1,.inl ⟨rfl,⟨hI _ _ _ hi3 (turn _ _),f2,f3⟩,f4⟩⟩
   | ret =>
    obtain ⟨hk,hi3⟩:=hp;obtain ⟨f1,f2,f3,f4⟩:=fin (some .ret) W3 hk;exact ⟨_,_,f1,.inr ⟨rfl,_,hIx _ _ _ _ hi3 (turn _ _),f2,f3⟩⟩
   | exit id =>
    obtain ⟨hk,hi3⟩:=hp;obtain ⟨f1,f2,f3,f4⟩:=fin (some (.exit id)) W3 hk;exact ⟨_,_,f1,.inr ⟨rfl,_,hIx _ _ _ _ hi3 (turn _ _),f2,f3⟩⟩
   | goto t =>
    obtain ⟨hk,hi3⟩:=hp;obtain ⟨f1,f2,f3,f4⟩:=fin (some (.goto t)) W3 hk;exact ⟨_,_,f1,.inr ⟨rfl,_,hIx _ _ _ _ hi3 (turn _ _),f2,f3⟩⟩
   | panic ch=>exact hp.elim
   | outgrown=>exact hp.elim
  ·rw [hrec]
   rintro e W2 ⟨⟨v,rfl⟩,(⟨xs,hall,h1,h2,h3⟩ | ⟨pre,hpre,c,h1,h2,h3⟩)⟩
   ·exact ⟨none,_,run_endLoop (P:=Tryz.prog) h2 (by simp),hdone xs _ hall (hI _ _ _ h1 (turn _ _)) ((World.putObj_heap_other (by omega)).trans h3)⟩
   ·exact ⟨some c,_,run_endLoop (P:=Tryz.prog) h2 (by simp),hstop c pre _ hpre (hIx _ _ _ _ h1 (turn _ _)) ((World.putObj_heap_other (by omega)).trans h3)⟩
theorem Q.gapped {a A B:World} {lo hi:Nat} (h:Q a A) (hg:Gap lo hi A B) (hl:a.heap.size <= lo):Q a B :=
 Below.trans h ⟨hg.os,hg.tape,hg.output,hg.size,fun k hk=>hg.block k (Nat.lt_of_lt_of_le hk h.size) (.inl (by omega))⟩
theorem Own.base {w:World} {B:Nat} {v:Value} {zs:List Int} (h:Own w B v zs) {lo hi:Nat} (hb:hi <= B):∀ g,v.ownBlock = some g -> g < lo \/ hi <= g:=fun g hg=>.inr (Nat.le_trans hb (h.lt g hg).1)
theorem box_not_own {W:World} {B b:Nat} {t:TypeId} {u v:Value} {zs:List Int} (h:Boxed W b t u) (ho:Own W B v zs) (ht:t ≠ 3):some b ≠ v.ownBlock:=by
 intro e;obtain ⟨cur,hc⟩:=ho.cells b e.symm;have:=(show W.heap[b]? = _ from h).symm.trans hc;simp at this;exact ht this.2
theorem push_in {F:Fence} {n:Nat} {w:World} {B:Nat} {v:Value} {zs:List Int} (hown:Own w B v zs) {ops:Array Oper} {rest:List Oper} {o:Oper} {a:Act} {R:Exit -> Act -> World -> Prop} (hgd:o.guard = none) (s x:Operand)
  (ho:o.op = .call { callee:=.builtin .append,args:=#[s,x],argTypes:=#[41,41] })
  (m:Int) (hs:a.eval s = v) (hx:a.eval x = .slice (some ⟨w.heap.size,0,none⟩) 1 1) (hlen:zs.length < 1099511627776) (hB:B <= w.heap.size)
  (h:∀ g c w',Own w' B (.slice (some ⟨g,0,none⟩) (zs.length + 1) c) (zs ++ [m]) -> w.grownBy w' v.ownBlock -> wpListIn F n Tryz.prog ops R rest (a.put o.dst (.slice (some ⟨g,0,none⟩) (zs.length + 1) c)) w') :
  wpListIn F n Tryz.prog ops R (o :: rest) a (w.alloc (.cells #[.int .i64 m] 3)):=by
 obtain ⟨i0,hi,hz0,hz1,hz2⟩:=info_parts infoInt;refine wpListIn_append_own _ hgd s x 41 ho B 3 i0 (.int .i64 0) 1 8 Tryz.underlying41 hi hz0 hz1 hz2 rfl (by decide) v zs.length _ hs (World.ownsRow.alloc hown _)
  ⟨w.heap.size,0,none⟩ 1 1 [.int .i64 m] hx rfl (cell_one_new _ _ _) ?_ ?_ ?_ ?_ ?_
 ·intro u hu;simp at hu;subst hu;rfl
 ·unfold maxLen;omega
 ·omega
 ·simp;omega
 ·intro v' w' hown' hg _
  obtain ⟨g,c,rfl⟩:=ownsRow_succ hown';refine h g c w' ?_ ((World.grownBy_alloc w _ _).trans hg);have e1:(zs ++ [m]).length = zs.length + 1:=by simp
  unfold Own;rw [e1,List.map_append];exact hown'
end
section
open Go.RowKit
namespace Pc
abbrev E:=Int × List UInt8
def txt (l:List UInt8):Value:=.string ⟨l.toArray⟩
def flat (l:List E):List Value:=l.flatMap fun p=>[.int .i64 p.1,txt p.2]
theorem flat_cons (p:E) (l:List E):flat (p :: l) = .int .i64 p.1 :: txt p.2 :: flat l:=by simp [flat]
theorem flat_len (l:List E):(flat l).length = l.length * 2:=by
 induction l with
 | nil=>rfl
 | cons p l ih=>rw [flat_cons];simp [ih];omega
theorem flat_app (a b:List E):flat (a ++ b) = flat a ++ flat b:=by simp [flat]
theorem flat_get (l:List E) (i:Nat) (h:i < l.length):(flat l)[i * 2]? = some (.int .i64 (l.getD i (0,[])).1) /\ (flat l)[i * 2 + 1]? = some (txt (l.getD i (0,[])).2):=by
 induction l generalizing i with
 | nil=>simp at h
 | cons p l ih =>
  cases i with
  | zero=>rw [flat_cons];simp
  | succ i =>
   have:=ih i (by simpa using h);rw [flat_cons,show (i + 1) * 2 = i * 2 + 1 + 1 from by omega];simpa using this
theorem flat_one (l:List E):∀ u ∈ flat l,u.oneCell' = true:=by
 intro u hu;obtain ⟨p,_,hp⟩:=List.mem_flatMap.1 hu;simp only [List.mem_cons,List.not_mem_nil,or_false] at hp;rcases hp with rfl | rfl <;> rfl
def LstP (w:World) (v:Value) (l:List E):Prop :=
 (l = [] /\ ∃ a c,v = .slice a 0 c /\ c <= maxLen /\ (a = none -> c = 0)) \/
 ∃ g off cap,v = .slice (some ⟨g,off,none⟩) l.length cap /\ g < w.heap.size /\ l.length <= cap /\ cap <= maxLen /\ ∀ i,i < l.length -> w.cell? ⟨g,off + i * 2,none⟩ = some (.int .i64 (l.getD i (0,[])).1) /\ w.cell? ⟨g,off + i * 2 + 1,none⟩ = some (txt (l.getD i (0,[])).2)
theorem LstP.nil (w:World) (a:Option Addr) (c:Nat) (hc:c <= maxLen) (hn:a = none -> c = 0):LstP w (.slice a 0 c) []:=.inl ⟨rfl,a,c,rfl,hc,hn⟩
theorem LstP.q {w w':World} {v:Value} {l:List E} (h:LstP w v l) (hq:Q w w'):LstP w' v l:=by
 rcases h with h | ⟨g,off,cap,hv,hg,h1,h2,hc⟩
 ·exact .inl h
 ·refine .inr ⟨g,off,cap,hv,Nat.lt_of_lt_of_le hg hq.le,h1,h2,fun i hi=>?_⟩
  obtain ⟨c1,c2⟩:=hc i hi;exact ⟨(World.cell?_of_block (w:=w) (hq.block hg)).trans c1,(World.cell?_of_block (w:=w) (hq.block hg)).trans c2⟩
theorem LstP.shape2 {w:World} {v:Value} {l:List E} (h:LstP w v l):∃ a c,v = .slice a l.length c /\ l.length <= c /\ c <= maxLen:=by
 rcases h with ⟨rfl,a,c,rfl,hc,_⟩ | ⟨g,off,cap,hv,_,h1,h2,_⟩
 ·exact ⟨a,c,rfl,Nat.zero_le _,hc⟩
 ·exact ⟨_,_,hv,h1,h2⟩
theorem LstP.form0 {w:World} {v:Value} {l:List E} {n:Nat} (h:LstP w v l) (hn:l.length = n):∃ a c,v = .slice a n c /\ n <= c /\ c <= maxLen:=by
 subst hn;exact h.shape2
theorem LstP.shape {w:World} {v:Value} {l:List E} (h:LstP w v l):∃ a c,v = .slice a l.length c:=by
 obtain ⟨a,c,hv,_⟩:=h.shape2;exact ⟨a,c,hv⟩
theorem LstP.cellOf {w:World} {v:Value} {l:List E} {n k:Nat} (h:LstP w v l) (hn:l.length = n) (hk:k < n) :
  ∃ g off cap,v = .slice (some ⟨g,off,none⟩) n cap /\ g < w.heap.size /\ n <= cap /\ cap <= maxLen /\ w.cell? ⟨g,off + k * 2,none⟩ = some (.int .i64 (l.getD k (0,[])).1) /\ w.cell? ⟨g,off + k * 2 + 1,none⟩ = some (txt (l.getD k (0,[])).2):=by
 rcases h with ⟨rfl,_⟩ | ⟨g,off,cap,hv,hg,h1,h2,hc⟩
 ·simp at hn;omega
 ·rw [hn] at hv h1 hc
  exact ⟨g,off,cap,hv,hg,h1,h2,(hc k hk).1,(hc k hk).2⟩
theorem LstP.take {w:World} {a:Option Addr} {n c:Nat} {l:List E} (h:LstP w (.slice a n c) l) (k:Nat) (hk:k <= l.length):LstP w (.slice a k c) (l.take k):=by
 rcases h with ⟨rfl,a,c,hv,hc,hn⟩ | ⟨g,off,cap,hv,hg,h1,h2,hcell⟩
 ·cases hv
  have:k = 0:=by simpa using hk
  subst this;exact .nil _ _ _ hc hn
 ·cases hv
  have hl:(l.take k).length = k:=by simp;omega
  refine .inr ⟨g,off,c,by rw [hl],hg,by omega,h2,fun i hi=>?_⟩;rw [hl] at hi;have e:(l.take k).getD i (0,[]) = l.getD i (0,[]):=by
   simp only [List.getD_eq_getElem?_getD];rw [List.getElem?_take,if_pos hi]
  rw [e];exact hcell i (by omega)
theorem LstP.drop {w:World} {g off n c k:Nat} {l:List E} (h:LstP w (.slice (some ⟨g,off,none⟩) n c) l) (hn:l.length = n) (hk:k < n):LstP w (.slice (some ⟨g,off + k * 2,none⟩) (n - k) (c - k)) (l.drop k):=by
 rcases h with ⟨rfl,_⟩ | ⟨g',off',cap,hv,hg,h1,h2,hc⟩
 ·simp at hn;omega
 ·cases hv
  have hl:(l.drop k).length = l.length - k:=by simp
  refine .inr ⟨g,off + k * 2,c - k,by rw [hl],hg,by omega,by unfold maxLen at *;omega,fun i hi=>?_⟩;rw [hl] at hi;have e:(l.drop k).getD i (0,[]) = l.getD (k + i) (0,[]):=by
   simp only [List.getD_eq_getElem?_getD,List.getElem?_drop]
  rw [e,show off + k * 2 + i * 2 = off + (k + i) * 2 from by omega];exact hc (k + i) (by omega)
theorem LstP.rest {w:World} {a:Option Addr} {n c z:Nat} {l:List E} (h:LstP w (.slice a n c) l) (hn:l.length = n) (hz:z <= n) :
  (∃ g off,a = some ⟨g,off,none⟩ /\ z < n /\ n <= c /\ c <= 9223372036854775807 /\ LstP w (.slice (some ⟨g,off + z * 2,none⟩) (n - z) (c - z)) (l.drop z)) \/
  (z = n /\ c = n /\ l.drop z = []) \/ (∃ ad,a = some ad /\ z = n /\ n < c /\ c <= 9223372036854775807 /\ l.drop z = []):=by
 by_cases hlt:z < n
 ·obtain ⟨g,off,cap,hv,hg,h1,h2,_⟩:=h.cellOf hn hlt
  cases hv;exact .inl ⟨g,off,rfl,hlt,h1,by unfold maxLen at h2;omega,h.drop hn hlt⟩
 ·have he:l.drop z = []:=List.drop_eq_nil_of_le (by omega)
  have hc:=h.form0 hn;obtain ⟨_,_,hv,h1,h2⟩:=hc;cases hv;unfold maxLen at h2;by_cases hcn:c = n
  ·exact .inr (.inl ⟨by omega,hcn,he⟩)
  ·refine .inr (.inr ?_)
   cases a with
   | some ad=>exact ⟨ad,rfl,by omega,by omega,by omega,he⟩
   | none =>
    rcases h with ⟨rfl,_,_,hv2,_,hn2⟩ | ⟨_,_,_,hv2,_⟩
    ·cases hv2
     have:=hn2 rfl;omega
    ·cases hv2
def OwnE (T:TypeId) (w:World) (B:Nat) (v:Value) (l:List E):Prop:=w.ownsRow B T 2 v l.length (flat l)
theorem OwnE.nil (T:TypeId) (w:World) (B:Nat):OwnE T w B (.slice none 0 0) []:=World.ownsRow_nil w B T 2
theorem OwnE.mono {T:TypeId} {w:World} {B B':Nat} {v:Value} {l:List E} (h:OwnE T w B v l) (hB:B' <= B):OwnE T w B' v l:=by
 obtain ⟨h1,h2⟩:=h;refine ⟨h1,?_⟩;rcases h2 with h2 | ⟨g,cap,cur,hv,hg,r⟩
 ·exact .inl h2
 ·exact .inr ⟨g,cap,cur,hv,by omega,r⟩
theorem OwnE.same {T:TypeId} {w w':World} {B:Nat} {v:Value} {l:List E} (h:OwnE T w B v l) (hs:∀ g,v.ownBlock = some g -> w'.heap[g]? = w.heap[g]?):OwnE T w' B v l:=by
 obtain ⟨h1,h2⟩:=h;refine ⟨h1,?_⟩;rcases h2 with h2 | ⟨g,cap,cur,hv,hg,hh,r⟩
 ·exact .inl h2
 ·exact .inr ⟨g,cap,cur,hv,hg,by rw [hs g (by rw [hv];rfl)];exact hh,r⟩
theorem OwnE.lt {T:TypeId} {w:World} {B:Nat} {v:Value} {l:List E} (h:OwnE T w B v l):∀ g,v.ownBlock = some g -> B <= g /\ g < w.heap.size:=World.ownsRow.lt h
theorem OwnE.q {T:TypeId} {w w':World} {B:Nat} {v:Value} {l:List E} (h:OwnE T w B v l) (hq:Q w w'):OwnE T w' B v l:=h.same fun g hg=>hq.block (h.lt g hg).2
theorem OwnE.lst {T:TypeId} {w:World} {B:Nat} {v:Value} {l:List E} (h:OwnE T w B v l):LstP w v l:=by
 rcases h.2 with ⟨hv,hn⟩ | ⟨g,cap,cur,hv,_,hh,hnc,hcm,hcs,ht⟩
 ·have:l = []:=List.eq_nil_of_length_eq_zero hn
  subst this;subst hv;exact .nil _ _ _ (by unfold maxLen;omega) (fun _=>rfl)
 ·refine .inr ⟨g,0,cap,hv,(Array.getElem?_eq_some_iff.1 hh).1,hnc,hcm,fun i hi=>⟨?_,?_⟩⟩
  ·rw [cell_of_row w g (0 + i * 2) cur T (0,0) hh]
   have h1:=congrArg (fun x=>x[i * 2]?) ht;rw [List.getElem?_take,if_pos (by omega),(flat_get l i hi).1] at h1;rw [Nat.zero_add,<- Array.getElem?_toList,h1]
  ·rw [cell_of_row w g (0 + i * 2 + 1) cur T (0,0) hh]
   have h1:=congrArg (fun x=>x[i * 2 + 1]?) ht;rw [List.getElem?_take,if_pos (by omega),(flat_get l i hi).2] at h1;rw [Nat.zero_add,<- Array.getElem?_toList,h1]
def New (w:World) (B:Nat) (v:Value) (l:List E):Prop:=LstP w v l /\ ∀ a n c,v = .slice (some a) n c -> n ≠ 0 -> B <= a.block
theorem New.q {w w':World} {B:Nat} {v:Value} {l:List E} (h:New w B v l) (hq:Q w w'):New w' B v l:=⟨h.1.q hq,h.2⟩
theorem New.mono {w:World} {B B':Nat} {v:Value} {l:List E} (h:New w B v l) (hB:B' <= B):New w B' v l:=⟨h.1,fun a n c e k=>Nat.le_trans hB (h.2 a n c e k)⟩
theorem OwnE.new {T:TypeId} {w:World} {B:Nat} {v:Value} {l:List E} (h:OwnE T w B v l):New w B v l:=by
 refine ⟨h.lst,fun a n c e _=>?_⟩;rcases h.2 with ⟨hv,_⟩ | ⟨g,cap,cur,hv,hg,_⟩
 ·rw [hv] at e;cases e
 ·rw [hv] at e;cases e;exact hg
structure El (T ST:TypeId):Prop where
 info:(Tryz.prog.info? T).map (fun i=>(i.zero,i.size,i.bytes)) = some (some (.agg #[.int .i64 0,.string ByteArray.empty]),2,24)
 under:Tryz.prog.underlying ST = some (.slice T)
theorem push {T ST:TypeId} (he:El T ST) {w:World} {B:Nat} {v:Value} {l:List E} (hown:OwnE T w B v l) {ops:Array Oper} {rest:List Oper} {o:Oper} {a:Act} {R:Exit -> Act -> World -> Prop} (hgd:o.guard = none) (s x:Operand)
  (ho:o.op = .call { callee:=.builtin .append,args:=#[s,x],argTypes:=#[ST,ST] })
  (p:Int) (t:ByteArray) (hs:a.eval s = v) (hx:a.eval x = .slice (some ⟨w.heap.size,0,none⟩) 1 1) (hlen:l.length < 1073741824) (hB:B <= w.heap.size)
  (h:∀ v' w',OwnE T w' B v' (l ++ [(p,t.data.toList)]) -> w.grownBy w' v.ownBlock -> (v'.ownBlock = v.ownBlock \/ v'.ownBlock = some (w.heap.size + 1)) -> wpList Tryz.prog ops R rest (a.put o.dst v') w') :
  wpList Tryz.prog ops R (o :: rest) a (w.alloc (.cells #[.int .i64 p,.string t] T)):=by
 obtain ⟨i0,hi,hz0,hz1,hz2⟩:=info_parts he.info;refine wpList_append_own_at _ hgd s x ST ho B T i0 (.agg #[.int .i64 0,.string ByteArray.empty]) 2 24 he.under hi hz0 hz1 hz2 rfl (by decide) v l.length _ hs (World.ownsRow.alloc hown _)
  ⟨w.heap.size,0,none⟩ 1 1 [.int .i64 p,.string t] hx rfl ?_ ?_ ?_ ?_ ?_ ?_
 ·intro j u hj
  match j,hj with
  | 0,hj=>simp at hj;subst hj;show World.cell? _ ⟨w.heap.size,0 + 0,none⟩ = _;rw [World.cell?_alloc_at _ _ _ _ rfl];rfl
  | 1,hj=>simp at hj;subst hj;show World.cell? _ ⟨w.heap.size,0 + 1,none⟩ = _;rw [World.cell?_alloc_at _ _ _ _ rfl];rfl
 ·intro u hu;simp at hu;rcases hu with rfl | rfl <;> rfl
 ·unfold maxLen;omega
 ·omega
 ·simp;omega
 ·intro v' w' hown' hg _ hat
  refine h v' w' ?_ ?_ ?_
  ·unfold OwnE
   rw [List.length_append,flat_app];exact hown'
  ·exact (World.grownBy_alloc w _ _).trans hg
  ·simpa using hat
theorem pushl {T ST:TypeId} (he:El T ST) {w:World} {B:Nat} {v u:Value} {l k:List E} (hown:OwnE T w B v l) (hu:LstP w u k) {ops:Array Oper} {rest:List Oper} {o:Oper} {a:Act} {R:Exit -> Act -> World -> Prop} (hgd:o.guard = none) (s x:Operand)
  (ho:o.op = .call { callee:=.builtin .append,args:=#[s,x],argTypes:=#[ST,ST] })
  (hs:a.eval s = v) (hx:a.eval x = u) (hlen:l.length + k.length < 1073741824) (hB:B <= w.heap.size)
  (h:∀ v' w',OwnE T w' B v' (l ++ k) -> w.grownBy w' v.ownBlock -> (v'.ownBlock = v.ownBlock \/ v'.ownBlock = some w.heap.size) -> wpList Tryz.prog ops R rest (a.put o.dst v') w') :
  wpList Tryz.prog ops R (o :: rest) a w:=by
 obtain ⟨i0,hi,hz0,hz1,hz2⟩:=info_parts he.info;have key:∀ (ad:Addr) (m c:Nat),u = .slice (some ad) m c -> k.length = m -> (∀ j x,(flat k)[j]? = some x -> w.cell? (ad.add j) = some x) -> wpList Tryz.prog ops R (o :: rest) a w:=by
  intro ad m c hu hm hc;subst hu;subst hm;refine wpList_append_own_at _ hgd s x ST ho B T i0 (.agg #[.int .i64 0,.string ByteArray.empty]) 2 24 he.under hi hz0 hz1 hz2 rfl (by decide) v l.length _ hs hown
   ad k.length c (flat k) hx (by rw [flat_len]) hc (flat_one k) ?_ ?_ hB ?_
  ·unfold maxLen;omega
  ·omega
  ·intro v' w' hown' hg _ hat
   refine h v' w' ?_ hg hat;unfold OwnE;rw [List.length_append,flat_app];exact hown'
 rcases hu with ⟨rfl,ad,c,rfl,hc,hn⟩ | ⟨g,off,cap,hv,hg,h1,h2,hc⟩
 ·cases ad with
  | none =>
   obtain rfl:=hn rfl;refine wpList_append_own_none hgd s x ST ho B T i0 2 he.under hi v l.length _ hs hown hx ?_;exact h v w (by rw [List.append_nil];exact hown) ⟨rfl,rfl,rfl,Nat.le_refl _,fun _ _ _=>rfl⟩ (.inl rfl)
  | some ad=>exact key ad 0 c rfl rfl (by simp [flat])
 ·refine key ⟨g,off,none⟩ k.length cap hv rfl fun j x hj=>?_
  have hjl:j < k.length * 2:=by
   have:=(List.getElem?_eq_some_iff.1 hj).1;rwa [flat_len] at this
  have hadd:(⟨g,off,none⟩:Addr).add j = ⟨g,off + j,none⟩:=by unfold Addr.add;split <;> simp_all
  obtain ⟨i,hi⟩:∃ i,i = j / 2:=⟨_,rfl⟩;have hik:i < k.length:=by omega
  obtain ⟨f1,f2⟩:=flat_get k i hik;obtain ⟨c1,c2⟩:=hc i hik;rw [hadd];rcases (show j = i * 2 \/ j = i * 2 + 1 from by omega) with hj2 | hj2
  ·rw [hj2] at hj |-
   rw [f1] at hj;rw [c1];exact hj
  ·rw [hj2] at hj |-
   rw [f2] at hj;rw [<- Nat.add_assoc,c2];exact hj
end Pc
end
section
open Go.RowKit
theorem GOwn.cellAt {α:Type} {T:TypeId} {en:α -> Value} {w:World} {B g n cap:Nat} {zs:List α} (h:GOwn T en w B (.slice (some ⟨g,0,none⟩) n cap) zs) (hn:zs.length = n) {k:Nat} {x:α} (hk:zs[k]? = some x):w.cell? ⟨g,k,none⟩ = some (en x):=by
 subst hn;have hl:=(List.getElem?_eq_some_iff.1 hk).1;rw [World.ownsRow.cellAt h k (by omega),List.getElem?_map,hk];rfl
theorem GOwn.freeAt {α:Type} {T:TypeId} {en:α -> Value} {w:World} {B g n cap:Nat} {zs:List α} (h:GOwn T en w B (.slice (some ⟨g,0,none⟩) n cap) zs) (hn:zs.length = n) (k:Nat):w.frozen? ⟨g,k,none⟩ = false:=by
 subst hn;exact World.ownsRow.frozenAt h k
theorem GOwn.stored {α:Type} {T:TypeId} {en:α -> Value} {w:World} {B g n cap:Nat} {zs:List α} (h:GOwn T en w B (.slice (some ⟨g,0,none⟩) n cap) zs) (hn:zs.length = n) (k:Nat) (x:α):GOwn T en (w.setCell ⟨g,k,none⟩ (en x)) B (.slice (some ⟨g,0,none⟩) n cap) (zs.set k x):=by
 subst hn;have:=(World.ownsRow.stored h k (en x)).1;unfold GOwn;rw [List.length_set,List.map_set];exact this
theorem Q.setCell {a w:World} (h:Q a w) {ad:Addr} (hg:a.heap.size <= ad.block) (u:Value):Q a (w.setCell ad u) :=
 Below.trans h ⟨rfl,rfl,rfl,by simp,fun k hk=>heap_setCell_other w ad k u (by omega)⟩
theorem Lst.setCell {w:World} {v:Value} {zs:List Int} (h:Lst w v zs) {ad:Addr} (u:Value) (ho:∀ a n c,v = .slice (some a) n c -> n ≠ 0 -> a.block ≠ ad.block):Lst (w.setCell ad u) v zs:=by
 rcases h with h | ⟨g,off,cap,hv,hg,h1,h2,hc⟩
 ·exact .inl h
 ·by_cases h0:zs.length = 0
  ·have:zs = []:=List.eq_nil_of_length_eq_zero h0
   subst this;exact .inl ⟨rfl,_,_,hv,h2,fun h=>by cases h⟩
  ·refine .inr ⟨g,off,cap,hv,by simpa using hg,h1,h2,fun i hi=>?_⟩
   rw [World.cell?_of_block (w:=w) (heap_setCell_other w ad g u (fun e=>ho _ _ _ hv h0 e))];exact hc i hi
theorem Lst.drop {w:World} {g off n c k:Nat} {zs:List Int} (h:Lst w (.slice (some ⟨g,off,none⟩) n c) zs) (hn:zs.length = n) (hk:k < n):Lst w (.slice (some ⟨g,off + k,none⟩) (n - k) (c - k)) (zs.drop k):=by
 rcases h with ⟨rfl,_⟩ | ⟨g',off',cap,hv,hg,h1,h2,hc⟩
 ·simp at hn;omega
 ·cases hv
  have hl:(zs.drop k).length = zs.length - k:=by simp
  refine .inr ⟨g,off + k,c - k,by rw [hl],hg,by omega,by unfold maxLen at *;omega,fun i hi=>?_⟩;rw [hl] at hi;rw [Nat.add_assoc,hc (k + i) (by omega),List.getD_eq_getElem?_getD,List.getD_eq_getElem?_getD,List.getElem?_drop]
structure Sl where
 a:Option Addr
 n:Nat
 c:Nat
 zs:List Int
def Sl.v (s:Sl):Value:=.slice s.a s.n s.c
theorem Sl.one (s:Sl):(Sl.v s).oneCell' = true:=rfl
def Sl.ok (w:World) (s:Sl):Prop:=Lst w s.v s.zs /\ s.zs.length = s.n
theorem Sl.ok.q {w w':World} {s:Sl} (h:s.ok w) (hq:Q w w'):s.ok w':=⟨h.1.q hq,h.2⟩
theorem Lst.sl {w:World} {v:Value} {zs:List Int} (h:Lst w v zs):∃ s:Sl,v = s.v /\ s.zs = zs /\ s.ok w:=by
 obtain ⟨a,c,rfl⟩:=h.shape;exact ⟨⟨a,zs.length,c,zs⟩,rfl,rfl,h,rfl⟩
def LL (w:World) (v:Value) (ls:List Sl):Prop:=GLst Sl.v w v ls /\ ∀ s ∈ ls,s.ok w
theorem LL.q {w w':World} {v:Value} {ls:List Sl} (h:LL w v ls) (hq:Q w w'):LL w' v ls:=⟨h.1.q hq,fun s hs=>(h.2 s hs).q hq⟩
def LO (w:World) (B:Nat) (v:Value) (ls:List Sl):Prop:=GOwn 41 Sl.v w B v ls /\ ∀ s ∈ ls,s.ok w
theorem LO.q {w w':World} {B:Nat} {v:Value} {ls:List Sl} (h:LO w B v ls) (hq:Q w w'):LO w' B v ls:=⟨h.1.q hq,fun s hs=>(h.2 s hs).q hq⟩
theorem Lst.rest {w:World} {a:Option Addr} {n c z:Nat} {zs:List Int} (h:Lst w (.slice a n c) zs) (hn:zs.length = n) (hz:z <= n) :
  (∃ g off,a = some ⟨g,off,none⟩ /\ z < n /\ n <= c /\ c <= 9223372036854775807 /\ Lst w (.slice (some ⟨g,off + z,none⟩) (n - z) (c - z)) (zs.drop z)) \/
  (z = n /\ c = n /\ zs.drop z = []) \/ (∃ ad,a = some ad /\ z = n /\ n < c /\ c <= 9223372036854775807 /\ zs.drop z = []):=by
 by_cases hlt:z < n
 ·obtain ⟨g,off,cap,hv,hg,h1,h2,_⟩:=h.cellOf hn hlt
  cases hv;exact .inl ⟨g,off,rfl,hlt,h1,by unfold maxLen at h2;omega,h.drop hn hlt⟩
 ·have he:zs.drop z = []:=List.drop_eq_nil_of_le (by omega)
  have hc:=h.form0 hn;obtain ⟨_,_,hv,h1,h2⟩:=hc;cases hv;unfold maxLen at h2;by_cases hcn:c = n
  ·exact .inr (.inl ⟨by omega,hcn,he⟩)
  ·refine .inr (.inr ?_)
   cases a with
   | some ad=>exact ⟨ad,rfl,by omega,by omega,by omega,he⟩
   | none =>
    rcases h with ⟨rfl,_,_,hv2,_,hn2⟩ | ⟨_,_,_,hv2,_⟩
    ·cases hv2
     have:=hn2 rfl;omega
    ·cases hv2
end
section
open Go.RowKit
namespace Sg
abbrev E:=Int × Int
@[reducible] def txt (l:Int):Value:=.int .i64 l
def flat (l:List E):List Value:=l.flatMap fun p=>[.int .i64 p.1,txt p.2]
theorem flat_cons (p:E) (l:List E):flat (p :: l) = .int .i64 p.1 :: txt p.2 :: flat l:=by simp [flat]
theorem flat_len (l:List E):(flat l).length = l.length * 2:=by
 induction l with
 | nil=>rfl
 | cons p l ih=>rw [flat_cons];simp [ih];omega
theorem flat_app (a b:List E):flat (a ++ b) = flat a ++ flat b:=by simp [flat]
theorem flat_get (l:List E) (i:Nat) (h:i < l.length):(flat l)[i * 2]? = some (.int .i64 (l.getD i (0,0)).1) /\ (flat l)[i * 2 + 1]? = some (txt (l.getD i (0,0)).2):=by
 induction l generalizing i with
 | nil=>simp at h
 | cons p l ih =>
  cases i with
  | zero=>rw [flat_cons];simp
  | succ i =>
   have:=ih i (by simpa using h);rw [flat_cons,show (i + 1) * 2 = i * 2 + 1 + 1 from by omega];simpa using this
theorem flat_one (l:List E):∀ u ∈ flat l,u.oneCell' = true:=by
 intro u hu;obtain ⟨p,_,hp⟩:=List.mem_flatMap.1 hu;simp only [List.mem_cons,List.not_mem_nil,or_false] at hp;rcases hp with rfl | rfl <;> rfl
def LstP (w:World) (v:Value) (l:List E):Prop :=
 (l = [] /\ ∃ a c,v = .slice a 0 c /\ c <= maxLen /\ (a = none -> c = 0)) \/
 ∃ g off cap,v = .slice (some ⟨g,off,none⟩) l.length cap /\ g < w.heap.size /\ l.length <= cap /\ cap <= maxLen /\ ∀ i,i < l.length -> w.cell? ⟨g,off + i * 2,none⟩ = some (.int .i64 (l.getD i (0,0)).1) /\ w.cell? ⟨g,off + i * 2 + 1,none⟩ = some (txt (l.getD i (0,0)).2)
theorem LstP.nil (w:World) (a:Option Addr) (c:Nat) (hc:c <= maxLen) (hn:a = none -> c = 0):LstP w (.slice a 0 c) []:=.inl ⟨rfl,a,c,rfl,hc,hn⟩
theorem LstP.q {w w':World} {v:Value} {l:List E} (h:LstP w v l) (hq:Q w w'):LstP w' v l:=by
 rcases h with h | ⟨g,off,cap,hv,hg,h1,h2,hc⟩
 ·exact .inl h
 ·refine .inr ⟨g,off,cap,hv,Nat.lt_of_lt_of_le hg hq.le,h1,h2,fun i hi=>?_⟩
  obtain ⟨c1,c2⟩:=hc i hi;exact ⟨(World.cell?_of_block (w:=w) (hq.block hg)).trans c1,(World.cell?_of_block (w:=w) (hq.block hg)).trans c2⟩
theorem LstP.shape2 {w:World} {v:Value} {l:List E} (h:LstP w v l):∃ a c,v = .slice a l.length c /\ l.length <= c /\ c <= maxLen:=by
 rcases h with ⟨rfl,a,c,rfl,hc,_⟩ | ⟨g,off,cap,hv,_,h1,h2,_⟩
 ·exact ⟨a,c,rfl,Nat.zero_le _,hc⟩
 ·exact ⟨_,_,hv,h1,h2⟩
theorem LstP.form0 {w:World} {v:Value} {l:List E} {n:Nat} (h:LstP w v l) (hn:l.length = n):∃ a c,v = .slice a n c /\ n <= c /\ c <= maxLen:=by
 subst hn;exact h.shape2
theorem LstP.shape {w:World} {v:Value} {l:List E} (h:LstP w v l):∃ a c,v = .slice a l.length c:=by
 obtain ⟨a,c,hv,_⟩:=h.shape2;exact ⟨a,c,hv⟩
theorem LstP.cellOf {w:World} {v:Value} {l:List E} {n k:Nat} (h:LstP w v l) (hn:l.length = n) (hk:k < n) :
  ∃ g off cap,v = .slice (some ⟨g,off,none⟩) n cap /\ g < w.heap.size /\ n <= cap /\ cap <= maxLen /\ w.cell? ⟨g,off + k * 2,none⟩ = some (.int .i64 (l.getD k (0,0)).1) /\ w.cell? ⟨g,off + k * 2 + 1,none⟩ = some (txt (l.getD k (0,0)).2):=by
 rcases h with ⟨rfl,_⟩ | ⟨g,off,cap,hv,hg,h1,h2,hc⟩
 ·simp at hn;omega
 ·rw [hn] at hv h1 hc
  exact ⟨g,off,cap,hv,hg,h1,h2,(hc k hk).1,(hc k hk).2⟩
theorem LstP.take {w:World} {a:Option Addr} {n c:Nat} {l:List E} (h:LstP w (.slice a n c) l) (k:Nat) (hk:k <= l.length):LstP w (.slice a k c) (l.take k):=by
 rcases h with ⟨rfl,a,c,hv,hc,hn⟩ | ⟨g,off,cap,hv,hg,h1,h2,hcell⟩
 ·cases hv
  have:k = 0:=by simpa using hk
  subst this;exact .nil _ _ _ hc hn
 ·cases hv
  have hl:(l.take k).length = k:=by simp;omega
  refine .inr ⟨g,off,c,by rw [hl],hg,by omega,h2,fun i hi=>?_⟩;rw [hl] at hi;have e:(l.take k).getD i (0,0) = l.getD i (0,0):=by
   simp only [List.getD_eq_getElem?_getD];rw [List.getElem?_take,if_pos hi]
  rw [e];exact hcell i (by omega)
theorem LstP.drop {w:World} {g off n c k:Nat} {l:List E} (h:LstP w (.slice (some ⟨g,off,none⟩) n c) l) (hn:l.length = n) (hk:k < n):LstP w (.slice (some ⟨g,off + k * 2,none⟩) (n - k) (c - k)) (l.drop k):=by
 rcases h with ⟨rfl,_⟩ | ⟨g',off',cap,hv,hg,h1,h2,hc⟩
 ·simp at hn;omega
 ·cases hv
  have hl:(l.drop k).length = l.length - k:=by simp
  refine .inr ⟨g,off + k * 2,c - k,by rw [hl],hg,by omega,by unfold maxLen at *;omega,fun i hi=>?_⟩;rw [hl] at hi;have e:(l.drop k).getD i (0,0) = l.getD (k + i) (0,0):=by
   simp only [List.getD_eq_getElem?_getD,List.getElem?_drop]
  rw [e,show off + k * 2 + i * 2 = off + (k + i) * 2 from by omega];exact hc (k + i) (by omega)
theorem LstP.rest {w:World} {a:Option Addr} {n c z:Nat} {l:List E} (h:LstP w (.slice a n c) l) (hn:l.length = n) (hz:z <= n) :
  (∃ g off,a = some ⟨g,off,none⟩ /\ z < n /\ n <= c /\ c <= 9223372036854775807 /\ LstP w (.slice (some ⟨g,off + z * 2,none⟩) (n - z) (c - z)) (l.drop z)) \/
  (z = n /\ c = n /\ l.drop z = []) \/ (∃ ad,a = some ad /\ z = n /\ n < c /\ c <= 9223372036854775807 /\ l.drop z = []):=by
 by_cases hlt:z < n
 ·obtain ⟨g,off,cap,hv,hg,h1,h2,_⟩:=h.cellOf hn hlt
  cases hv;exact .inl ⟨g,off,rfl,hlt,h1,by unfold maxLen at h2;omega,h.drop hn hlt⟩
 ·have he:l.drop z = []:=List.drop_eq_nil_of_le (by omega)
  have hc:=h.form0 hn;obtain ⟨_,_,hv,h1,h2⟩:=hc;cases hv;unfold maxLen at h2;by_cases hcn:c = n
  ·exact .inr (.inl ⟨by omega,hcn,he⟩)
  ·refine .inr (.inr ?_)
   cases a with
   | some ad=>exact ⟨ad,rfl,by omega,by omega,by omega,he⟩
   | none =>
    rcases h with ⟨rfl,_,_,hv2,_,hn2⟩ | ⟨_,_,_,hv2,_⟩
    ·cases hv2
     have:=hn2 rfl;omega
    ·cases hv2
def OwnE (T:TypeId) (w:World) (B:Nat) (v:Value) (l:List E):Prop:=w.ownsRow B T 2 v l.length (flat l)
theorem OwnE.nil (T:TypeId) (w:World) (B:Nat):OwnE T w B (.slice none 0 0) []:=World.ownsRow_nil w B T 2
theorem OwnE.mono {T:TypeId} {w:World} {B B':Nat} {v:Value} {l:List E} (h:OwnE T w B v l) (hB:B' <= B):OwnE T w B' v l:=by
 obtain ⟨h1,h2⟩:=h;refine ⟨h1,?_⟩;rcases h2 with h2 | ⟨g,cap,cur,hv,hg,r⟩
 ·exact .inl h2
 ·exact .inr ⟨g,cap,cur,hv,by omega,r⟩
theorem OwnE.same {T:TypeId} {w w':World} {B:Nat} {v:Value} {l:List E} (h:OwnE T w B v l) (hs:∀ g,v.ownBlock = some g -> w'.heap[g]? = w.heap[g]?):OwnE T w' B v l:=by
 obtain ⟨h1,h2⟩:=h;refine ⟨h1,?_⟩;rcases h2 with h2 | ⟨g,cap,cur,hv,hg,hh,r⟩
 ·exact .inl h2
 ·exact .inr ⟨g,cap,cur,hv,hg,by rw [hs g (by rw [hv];rfl)];exact hh,r⟩
theorem OwnE.lt {T:TypeId} {w:World} {B:Nat} {v:Value} {l:List E} (h:OwnE T w B v l):∀ g,v.ownBlock = some g -> B <= g /\ g < w.heap.size:=World.ownsRow.lt h
theorem OwnE.q {T:TypeId} {w w':World} {B:Nat} {v:Value} {l:List E} (h:OwnE T w B v l) (hq:Q w w'):OwnE T w' B v l:=h.same fun g hg=>hq.block (h.lt g hg).2
theorem OwnE.lst {T:TypeId} {w:World} {B:Nat} {v:Value} {l:List E} (h:OwnE T w B v l):LstP w v l:=by
 rcases h.2 with ⟨hv,hn⟩ | ⟨g,cap,cur,hv,_,hh,hnc,hcm,hcs,ht⟩
 ·have:l = []:=List.eq_nil_of_length_eq_zero hn
  subst this;subst hv;exact .nil _ _ _ (by unfold maxLen;omega) (fun _=>rfl)
 ·refine .inr ⟨g,0,cap,hv,(Array.getElem?_eq_some_iff.1 hh).1,hnc,hcm,fun i hi=>⟨?_,?_⟩⟩
  ·rw [cell_of_row w g (0 + i * 2) cur T (0,0) hh]
   have h1:=congrArg (fun x=>x[i * 2]?) ht;rw [List.getElem?_take,if_pos (by omega),(flat_get l i hi).1] at h1;rw [Nat.zero_add,<- Array.getElem?_toList,h1]
  ·rw [cell_of_row w g (0 + i * 2 + 1) cur T (0,0) hh]
   have h1:=congrArg (fun x=>x[i * 2 + 1]?) ht;rw [List.getElem?_take,if_pos (by omega),(flat_get l i hi).2] at h1;rw [Nat.zero_add,<- Array.getElem?_toList,h1]
def New (w:World) (B:Nat) (v:Value) (l:List E):Prop:=LstP w v l /\ ∀ a n c,v = .slice (some a) n c -> n ≠ 0 -> B <= a.block
theorem New.q {w w':World} {B:Nat} {v:Value} {l:List E} (h:New w B v l) (hq:Q w w'):New w' B v l:=⟨h.1.q hq,h.2⟩
theorem New.mono {w:World} {B B':Nat} {v:Value} {l:List E} (h:New w B v l) (hB:B' <= B):New w B' v l:=⟨h.1,fun a n c e k=>Nat.le_trans hB (h.2 a n c e k)⟩
theorem OwnE.new {T:TypeId} {w:World} {B:Nat} {v:Value} {l:List E} (h:OwnE T w B v l):New w B v l:=by
 refine ⟨h.lst,fun a n c e _=>?_⟩;rcases h.2 with ⟨hv,_⟩ | ⟨g,cap,cur,hv,hg,_⟩
 ·rw [hv] at e;cases e
 ·rw [hv] at e;cases e;exact hg
structure El (T ST:TypeId):Prop where
 info:(Tryz.prog.info? T).map (fun i=>(i.zero,i.size,i.bytes)) = some (some (.agg #[.int .i64 0,.int .i64 0]),2,16)
 under:Tryz.prog.underlying ST = some (.slice T)
theorem push {T ST:TypeId} (he:El T ST) {w:World} {B:Nat} {v:Value} {l:List E} (hown:OwnE T w B v l) {ops:Array Oper} {rest:List Oper} {o:Oper} {a:Act} {R:Exit -> Act -> World -> Prop} (hgd:o.guard = none) (s x:Operand)
  (ho:o.op = .call { callee:=.builtin .append,args:=#[s,x],argTypes:=#[ST,ST] })
  (p:Int) (t:Int) (hs:a.eval s = v) (hx:a.eval x = .slice (some ⟨w.heap.size,0,none⟩) 1 1) (hlen:l.length < 1073741824) (hB:B <= w.heap.size)
  (h:∀ v' w',OwnE T w' B v' (l ++ [(p,t)]) -> w.grownBy w' v.ownBlock -> (v'.ownBlock = v.ownBlock \/ v'.ownBlock = some (w.heap.size + 1)) -> wpList Tryz.prog ops R rest (a.put o.dst v') w') :
  wpList Tryz.prog ops R (o :: rest) a (w.alloc (.cells #[.int .i64 p,.int .i64 t] T)):=by
 obtain ⟨i0,hi,hz0,hz1,hz2⟩:=info_parts he.info;refine wpList_append_own_at _ hgd s x ST ho B T i0 (.agg #[.int .i64 0,.int .i64 0]) 2 16 he.under hi hz0 hz1 hz2 rfl (by decide) v l.length _ hs (World.ownsRow.alloc hown _)
  ⟨w.heap.size,0,none⟩ 1 1 [.int .i64 p,.int .i64 t] hx rfl ?_ ?_ ?_ ?_ ?_ ?_
 ·intro j u hj
  match j,hj with
  | 0,hj=>simp at hj;subst hj;show World.cell? _ ⟨w.heap.size,0 + 0,none⟩ = _;rw [World.cell?_alloc_at _ _ _ _ rfl];rfl
  | 1,hj=>simp at hj;subst hj;show World.cell? _ ⟨w.heap.size,0 + 1,none⟩ = _;rw [World.cell?_alloc_at _ _ _ _ rfl];rfl
 ·intro u hu;simp at hu;rcases hu with rfl | rfl <;> rfl
 ·unfold maxLen;omega
 ·omega
 ·simp;omega
 ·intro v' w' hown' hg _ hat
  refine h v' w' ?_ ?_ ?_
  ·unfold OwnE
   rw [List.length_append,flat_app];exact hown'
  ·exact (World.grownBy_alloc w _ _).trans hg
  ·simpa using hat
theorem pushl {T ST:TypeId} (he:El T ST) {w:World} {B:Nat} {v u:Value} {l k:List E} (hown:OwnE T w B v l) (hu:LstP w u k) {ops:Array Oper} {rest:List Oper} {o:Oper} {a:Act} {R:Exit -> Act -> World -> Prop} (hgd:o.guard = none) (s x:Operand)
  (ho:o.op = .call { callee:=.builtin .append,args:=#[s,x],argTypes:=#[ST,ST] })
  (hs:a.eval s = v) (hx:a.eval x = u) (hlen:l.length + k.length < 1073741824) (hB:B <= w.heap.size)
  (h:∀ v' w',OwnE T w' B v' (l ++ k) -> w.grownBy w' v.ownBlock -> (v'.ownBlock = v.ownBlock \/ v'.ownBlock = some w.heap.size) -> wpList Tryz.prog ops R rest (a.put o.dst v') w') :
  wpList Tryz.prog ops R (o :: rest) a w:=by
 obtain ⟨i0,hi,hz0,hz1,hz2⟩:=info_parts he.info;have key:∀ (ad:Addr) (m c:Nat),u = .slice (some ad) m c -> k.length = m -> (∀ j x,(flat k)[j]? = some x -> w.cell? (ad.add j) = some x) -> wpList Tryz.prog ops R (o :: rest) a w:=by
  intro ad m c hu hm hc;subst hu;subst hm;refine wpList_append_own_at _ hgd s x ST ho B T i0 (.agg #[.int .i64 0,.int .i64 0]) 2 16 he.under hi hz0 hz1 hz2 rfl (by decide) v l.length _ hs hown
   ad k.length c (flat k) hx (by rw [flat_len]) hc (flat_one k) ?_ ?_ hB ?_
  ·unfold maxLen;omega
  ·omega
  ·intro v' w' hown' hg _ hat
   refine h v' w' ?_ hg hat;unfold OwnE;rw [List.length_append,flat_app];exact hown'
 rcases hu with ⟨rfl,ad,c,rfl,hc,hn⟩ | ⟨g,off,cap,hv,hg,h1,h2,hc⟩
 ·cases ad with
  | none =>
   obtain rfl:=hn rfl;refine wpList_append_own_none hgd s x ST ho B T i0 2 he.under hi v l.length _ hs hown hx ?_;exact h v w (by rw [List.append_nil];exact hown) ⟨rfl,rfl,rfl,Nat.le_refl _,fun _ _ _=>rfl⟩ (.inl rfl)
  | some ad=>exact key ad 0 c rfl rfl (by simp [flat])
 ·refine key ⟨g,off,none⟩ k.length cap hv rfl fun j x hj=>?_
  have hjl:j < k.length * 2:=by
   have:=(List.getElem?_eq_some_iff.1 hj).1;rwa [flat_len] at this
  have hadd:(⟨g,off,none⟩:Addr).add j = ⟨g,off + j,none⟩:=by unfold Addr.add;split <;> simp_all
  obtain ⟨i,hi⟩:∃ i,i = j / 2:=⟨_,rfl⟩;have hik:i < k.length:=by omega
  obtain ⟨f1,f2⟩:=flat_get k i hik;obtain ⟨c1,c2⟩:=hc i hik;rw [hadd];rcases (show j = i * 2 \/ j = i * 2 + 1 from by omega) with hj2 | hj2
  ·rw [hj2] at hj |-
   rw [f1] at hj;rw [c1];exact hj
  ·rw [hj2] at hj |-
   rw [f2] at hj;rw [<- Nat.add_assoc,c2];exact hj
end Sg
end
section
open Go.RowKit
namespace Pb
abbrev E:=Bool × List UInt8
def txt (l:List UInt8):Value:=.string ⟨l.toArray⟩
def flat (l:List E):List Value:=l.flatMap fun p=>[.bool p.1,txt p.2]
theorem flat_cons (p:E) (l:List E):flat (p :: l) = .bool p.1 :: txt p.2 :: flat l:=by simp [flat]
theorem flat_len (l:List E):(flat l).length = l.length * 2:=by
 induction l with
 | nil=>rfl
 | cons p l ih=>rw [flat_cons];simp [ih];omega
theorem flat_app (a b:List E):flat (a ++ b) = flat a ++ flat b:=by simp [flat]
theorem flat_get (l:List E) (i:Nat) (h:i < l.length):(flat l)[i * 2]? = some (.bool (l.getD i (false,[])).1) /\ (flat l)[i * 2 + 1]? = some (txt (l.getD i (false,[])).2):=by
 induction l generalizing i with
 | nil=>simp at h
 | cons p l ih =>
  cases i with
  | zero=>rw [flat_cons];simp
  | succ i =>
   have:=ih i (by simpa using h);rw [flat_cons,show (i + 1) * 2 = i * 2 + 1 + 1 from by omega];simpa using this
theorem flat_one (l:List E):∀ u ∈ flat l,u.oneCell' = true:=by
 intro u hu;obtain ⟨p,_,hp⟩:=List.mem_flatMap.1 hu;simp only [List.mem_cons,List.not_mem_nil,or_false] at hp;rcases hp with rfl | rfl <;> rfl
def LstP (w:World) (v:Value) (l:List E):Prop :=
 (l = [] /\ ∃ a c,v = .slice a 0 c /\ c <= maxLen /\ (a = none -> c = 0)) \/
 ∃ g off cap,v = .slice (some ⟨g,off,none⟩) l.length cap /\ g < w.heap.size /\ l.length <= cap /\ cap <= maxLen /\ ∀ i,i < l.length -> w.cell? ⟨g,off + i * 2,none⟩ = some (.bool (l.getD i (false,[])).1) /\ w.cell? ⟨g,off + i * 2 + 1,none⟩ = some (txt (l.getD i (false,[])).2)
theorem LstP.nil (w:World) (a:Option Addr) (c:Nat) (hc:c <= maxLen) (hn:a = none -> c = 0):LstP w (.slice a 0 c) []:=.inl ⟨rfl,a,c,rfl,hc,hn⟩
theorem LstP.q {w w':World} {v:Value} {l:List E} (h:LstP w v l) (hq:Q w w'):LstP w' v l:=by
 rcases h with h | ⟨g,off,cap,hv,hg,h1,h2,hc⟩
 ·exact .inl h
 ·refine .inr ⟨g,off,cap,hv,Nat.lt_of_lt_of_le hg hq.le,h1,h2,fun i hi=>?_⟩
  obtain ⟨c1,c2⟩:=hc i hi;exact ⟨(World.cell?_of_block (w:=w) (hq.block hg)).trans c1,(World.cell?_of_block (w:=w) (hq.block hg)).trans c2⟩
theorem LstP.shape2 {w:World} {v:Value} {l:List E} (h:LstP w v l):∃ a c,v = .slice a l.length c /\ l.length <= c /\ c <= maxLen:=by
 rcases h with ⟨rfl,a,c,rfl,hc,_⟩ | ⟨g,off,cap,hv,_,h1,h2,_⟩
 ·exact ⟨a,c,rfl,Nat.zero_le _,hc⟩
 ·exact ⟨_,_,hv,h1,h2⟩
theorem LstP.form0 {w:World} {v:Value} {l:List E} {n:Nat} (h:LstP w v l) (hn:l.length = n):∃ a c,v = .slice a n c /\ n <= c /\ c <= maxLen:=by
 subst hn;exact h.shape2
theorem LstP.shape {w:World} {v:Value} {l:List E} (h:LstP w v l):∃ a c,v = .slice a l.length c:=by
 obtain ⟨a,c,hv,_⟩:=h.shape2;exact ⟨a,c,hv⟩
theorem LstP.cellOf {w:World} {v:Value} {l:List E} {n k:Nat} (h:LstP w v l) (hn:l.length = n) (hk:k < n) :
  ∃ g off cap,v = .slice (some ⟨g,off,none⟩) n cap /\ g < w.heap.size /\ n <= cap /\ cap <= maxLen /\ w.cell? ⟨g,off + k * 2,none⟩ = some (.bool (l.getD k (false,[])).1) /\ w.cell? ⟨g,off + k * 2 + 1,none⟩ = some (txt (l.getD k (false,[])).2):=by
 rcases h with ⟨rfl,_⟩ | ⟨g,off,cap,hv,hg,h1,h2,hc⟩
 ·simp at hn;omega
 ·rw [hn] at hv h1 hc
  exact ⟨g,off,cap,hv,hg,h1,h2,(hc k hk).1,(hc k hk).2⟩
theorem LstP.take {w:World} {a:Option Addr} {n c:Nat} {l:List E} (h:LstP w (.slice a n c) l) (k:Nat) (hk:k <= l.length):LstP w (.slice a k c) (l.take k):=by
 rcases h with ⟨rfl,a,c,hv,hc,hn⟩ | ⟨g,off,cap,hv,hg,h1,h2,hcell⟩
 ·cases hv
  have:k = 0:=by simpa using hk
  subst this;exact .nil _ _ _ hc hn
 ·cases hv
  have hl:(l.take k).length = k:=by simp;omega
  refine .inr ⟨g,off,c,by rw [hl],hg,by omega,h2,fun i hi=>?_⟩;rw [hl] at hi;have e:(l.take k).getD i (false,[]) = l.getD i (false,[]):=by
   simp only [List.getD_eq_getElem?_getD];rw [List.getElem?_take,if_pos hi]
  rw [e];exact hcell i (by omega)
theorem LstP.drop {w:World} {g off n c k:Nat} {l:List E} (h:LstP w (.slice (some ⟨g,off,none⟩) n c) l) (hn:l.length = n) (hk:k < n):LstP w (.slice (some ⟨g,off + k * 2,none⟩) (n - k) (c - k)) (l.drop k):=by
 rcases h with ⟨rfl,_⟩ | ⟨g',off',cap,hv,hg,h1,h2,hc⟩
 ·simp at hn;omega
 ·cases hv
  have hl:(l.drop k).length = l.length - k:=by simp
  refine .inr ⟨g,off + k * 2,c - k,by rw [hl],hg,by omega,by unfold maxLen at *;omega,fun i hi=>?_⟩;rw [hl] at hi;have e:(l.drop k).getD i (false,[]) = l.getD (k + i) (false,[]):=by
   simp only [List.getD_eq_getElem?_getD,List.getElem?_drop]
  rw [e,show off + k * 2 + i * 2 = off + (k + i) * 2 from by omega];exact hc (k + i) (by omega)
theorem LstP.rest {w:World} {a:Option Addr} {n c z:Nat} {l:List E} (h:LstP w (.slice a n c) l) (hn:l.length = n) (hz:z <= n) :
  (∃ g off,a = some ⟨g,off,none⟩ /\ z < n /\ n <= c /\ c <= 9223372036854775807 /\ LstP w (.slice (some ⟨g,off + z * 2,none⟩) (n - z) (c - z)) (l.drop z)) \/
  (z = n /\ c = n /\ l.drop z = []) \/ (∃ ad,a = some ad /\ z = n /\ n < c /\ c <= 9223372036854775807 /\ l.drop z = []):=by
 by_cases hlt:z < n
 ·obtain ⟨g,off,cap,hv,hg,h1,h2,_⟩:=h.cellOf hn hlt
  cases hv;exact .inl ⟨g,off,rfl,hlt,h1,by unfold maxLen at h2;omega,h.drop hn hlt⟩
 ·have he:l.drop z = []:=List.drop_eq_nil_of_le (by omega)
  have hc:=h.form0 hn;obtain ⟨_,_,hv,h1,h2⟩:=hc;cases hv;unfold maxLen at h2;by_cases hcn:c = n
  ·exact .inr (.inl ⟨by omega,hcn,he⟩)
  ·refine .inr (.inr ?_)
   cases a with
   | some ad=>exact ⟨ad,rfl,by omega,by omega,by omega,he⟩
   | none =>
    rcases h with ⟨rfl,_,_,hv2,_,hn2⟩ | ⟨_,_,_,hv2,_⟩
    ·cases hv2
     have:=hn2 rfl;omega
    ·cases hv2
def OwnE (T:TypeId) (w:World) (B:Nat) (v:Value) (l:List E):Prop:=w.ownsRow B T 2 v l.length (flat l)
theorem OwnE.nil (T:TypeId) (w:World) (B:Nat):OwnE T w B (.slice none 0 0) []:=World.ownsRow_nil w B T 2
theorem OwnE.mono {T:TypeId} {w:World} {B B':Nat} {v:Value} {l:List E} (h:OwnE T w B v l) (hB:B' <= B):OwnE T w B' v l:=by
 obtain ⟨h1,h2⟩:=h;refine ⟨h1,?_⟩;rcases h2 with h2 | ⟨g,cap,cur,hv,hg,r⟩
 ·exact .inl h2
 ·exact .inr ⟨g,cap,cur,hv,by omega,r⟩
theorem OwnE.same {T:TypeId} {w w':World} {B:Nat} {v:Value} {l:List E} (h:OwnE T w B v l) (hs:∀ g,v.ownBlock = some g -> w'.heap[g]? = w.heap[g]?):OwnE T w' B v l:=by
 obtain ⟨h1,h2⟩:=h;refine ⟨h1,?_⟩;rcases h2 with h2 | ⟨g,cap,cur,hv,hg,hh,r⟩
 ·exact .inl h2
 ·exact .inr ⟨g,cap,cur,hv,hg,by rw [hs g (by rw [hv];rfl)];exact hh,r⟩
theorem OwnE.lt {T:TypeId} {w:World} {B:Nat} {v:Value} {l:List E} (h:OwnE T w B v l):∀ g,v.ownBlock = some g -> B <= g /\ g < w.heap.size:=World.ownsRow.lt h
theorem OwnE.q {T:TypeId} {w w':World} {B:Nat} {v:Value} {l:List E} (h:OwnE T w B v l) (hq:Q w w'):OwnE T w' B v l:=h.same fun g hg=>hq.block (h.lt g hg).2
theorem OwnE.lst {T:TypeId} {w:World} {B:Nat} {v:Value} {l:List E} (h:OwnE T w B v l):LstP w v l:=by
 rcases h.2 with ⟨hv,hn⟩ | ⟨g,cap,cur,hv,_,hh,hnc,hcm,hcs,ht⟩
 ·have:l = []:=List.eq_nil_of_length_eq_zero hn
  subst this;subst hv;exact .nil _ _ _ (by unfold maxLen;omega) (fun _=>rfl)
 ·refine .inr ⟨g,0,cap,hv,(Array.getElem?_eq_some_iff.1 hh).1,hnc,hcm,fun i hi=>⟨?_,?_⟩⟩
  ·rw [cell_of_row w g (0 + i * 2) cur T (0,0) hh]
   have h1:=congrArg (fun x=>x[i * 2]?) ht;rw [List.getElem?_take,if_pos (by omega),(flat_get l i hi).1] at h1;rw [Nat.zero_add,<- Array.getElem?_toList,h1]
  ·rw [cell_of_row w g (0 + i * 2 + 1) cur T (0,0) hh]
   have h1:=congrArg (fun x=>x[i * 2 + 1]?) ht;rw [List.getElem?_take,if_pos (by omega),(flat_get l i hi).2] at h1;rw [Nat.zero_add,<- Array.getElem?_toList,h1]
def New (w:World) (B:Nat) (v:Value) (l:List E):Prop:=LstP w v l /\ ∀ a n c,v = .slice (some a) n c -> n ≠ 0 -> B <= a.block
theorem New.q {w w':World} {B:Nat} {v:Value} {l:List E} (h:New w B v l) (hq:Q w w'):New w' B v l:=⟨h.1.q hq,h.2⟩
theorem New.mono {w:World} {B B':Nat} {v:Value} {l:List E} (h:New w B v l) (hB:B' <= B):New w B' v l:=⟨h.1,fun a n c e k=>Nat.le_trans hB (h.2 a n c e k)⟩
theorem OwnE.new {T:TypeId} {w:World} {B:Nat} {v:Value} {l:List E} (h:OwnE T w B v l):New w B v l:=by
 refine ⟨h.lst,fun a n c e _=>?_⟩;rcases h.2 with ⟨hv,_⟩ | ⟨g,cap,cur,hv,hg,_⟩
 ·rw [hv] at e;cases e
 ·rw [hv] at e;cases e;exact hg
structure El (T ST:TypeId):Prop where
 info:(Tryz.prog.info? T).map (fun i=>(i.zero,i.size,i.bytes)) = some (some (.agg #[.bool false,.string ByteArray.empty]),2,24)
 under:Tryz.prog.underlying ST = some (.slice T)
theorem push {T ST:TypeId} (he:El T ST) {w:World} {B:Nat} {v:Value} {l:List E} (hown:OwnE T w B v l) {ops:Array Oper} {rest:List Oper} {o:Oper} {a:Act} {R:Exit -> Act -> World -> Prop} (hgd:o.guard = none) (s x:Operand)
  (ho:o.op = .call { callee:=.builtin .append,args:=#[s,x],argTypes:=#[ST,ST] })
  (p:Bool) (t:ByteArray) (hs:a.eval s = v) (hx:a.eval x = .slice (some ⟨w.heap.size,0,none⟩) 1 1) (hlen:l.length < 1073741824) (hB:B <= w.heap.size)
  (h:∀ v' w',OwnE T w' B v' (l ++ [(p,t.data.toList)]) -> w.grownBy w' v.ownBlock -> (v'.ownBlock = v.ownBlock \/ v'.ownBlock = some (w.heap.size + 1)) -> wpList Tryz.prog ops R rest (a.put o.dst v') w') :
  wpList Tryz.prog ops R (o :: rest) a (w.alloc (.cells #[.bool p,.string t] T)):=by
 obtain ⟨i0,hi,hz0,hz1,hz2⟩:=info_parts he.info;refine wpList_append_own_at _ hgd s x ST ho B T i0 (.agg #[.bool false,.string ByteArray.empty]) 2 24 he.under hi hz0 hz1 hz2 rfl (by decide) v l.length _ hs (World.ownsRow.alloc hown _)
  ⟨w.heap.size,0,none⟩ 1 1 [.bool p,.string t] hx rfl ?_ ?_ ?_ ?_ ?_ ?_
 ·intro j u hj
  match j,hj with
  | 0,hj=>simp at hj;subst hj;show World.cell? _ ⟨w.heap.size,0 + 0,none⟩ = _;rw [World.cell?_alloc_at _ _ _ _ rfl];rfl
  | 1,hj=>simp at hj;subst hj;show World.cell? _ ⟨w.heap.size,0 + 1,none⟩ = _;rw [World.cell?_alloc_at _ _ _ _ rfl];rfl
 ·intro u hu;simp at hu;rcases hu with rfl | rfl <;> rfl
 ·unfold maxLen;omega
 ·omega
 ·simp;omega
 ·intro v' w' hown' hg _ hat
  refine h v' w' ?_ ?_ ?_
  ·unfold OwnE
   rw [List.length_append,flat_app];exact hown'
  ·exact (World.grownBy_alloc w _ _).trans hg
  ·simpa using hat
theorem pushl {T ST:TypeId} (he:El T ST) {w:World} {B:Nat} {v u:Value} {l k:List E} (hown:OwnE T w B v l) (hu:LstP w u k) {ops:Array Oper} {rest:List Oper} {o:Oper} {a:Act} {R:Exit -> Act -> World -> Prop} (hgd:o.guard = none) (s x:Operand)
  (ho:o.op = .call { callee:=.builtin .append,args:=#[s,x],argTypes:=#[ST,ST] })
  (hs:a.eval s = v) (hx:a.eval x = u) (hlen:l.length + k.length < 1073741824) (hB:B <= w.heap.size)
  (h:∀ v' w',OwnE T w' B v' (l ++ k) -> w.grownBy w' v.ownBlock -> (v'.ownBlock = v.ownBlock \/ v'.ownBlock = some w.heap.size) -> wpList Tryz.prog ops R rest (a.put o.dst v') w') :
  wpList Tryz.prog ops R (o :: rest) a w:=by
 obtain ⟨i0,hi,hz0,hz1,hz2⟩:=info_parts he.info;have key:∀ (ad:Addr) (m c:Nat),u = .slice (some ad) m c -> k.length = m -> (∀ j x,(flat k)[j]? = some x -> w.cell? (ad.add j) = some x) -> wpList Tryz.prog ops R (o :: rest) a w:=by
  intro ad m c hu hm hc;subst hu;subst hm;refine wpList_append_own_at _ hgd s x ST ho B T i0 (.agg #[.bool false,.string ByteArray.empty]) 2 24 he.under hi hz0 hz1 hz2 rfl (by decide) v l.length _ hs hown
   ad k.length c (flat k) hx (by rw [flat_len]) hc (flat_one k) ?_ ?_ hB ?_
  ·unfold maxLen;omega
  ·omega
  ·intro v' w' hown' hg _ hat
   refine h v' w' ?_ hg hat;unfold OwnE;rw [List.length_append,flat_app];exact hown'
 rcases hu with ⟨rfl,ad,c,rfl,hc,hn⟩ | ⟨g,off,cap,hv,hg,h1,h2,hc⟩
 ·cases ad with
  | none =>
   obtain rfl:=hn rfl;refine wpList_append_own_none hgd s x ST ho B T i0 2 he.under hi v l.length _ hs hown hx ?_;exact h v w (by rw [List.append_nil];exact hown) ⟨rfl,rfl,rfl,Nat.le_refl _,fun _ _ _=>rfl⟩ (.inl rfl)
  | some ad=>exact key ad 0 c rfl rfl (by simp [flat])
 ·refine key ⟨g,off,none⟩ k.length cap hv rfl fun j x hj=>?_
  have hjl:j < k.length * 2:=by
   have:=(List.getElem?_eq_some_iff.1 hj).1;rwa [flat_len] at this
  have hadd:(⟨g,off,none⟩:Addr).add j = ⟨g,off + j,none⟩:=by unfold Addr.add;split <;> simp_all
  obtain ⟨i,hi⟩:∃ i,i = j / 2:=⟨_,rfl⟩;have hik:i < k.length:=by omega
  obtain ⟨f1,f2⟩:=flat_get k i hik;obtain ⟨c1,c2⟩:=hc i hik;rw [hadd];rcases (show j = i * 2 \/ j = i * 2 + 1 from by omega) with hj2 | hj2
  ·rw [hj2] at hj |-
   rw [f1] at hj;rw [c1];exact hj
  ·rw [hj2] at hj |-
   rw [f2] at hj;rw [<- Nat.add_assoc,c2];exact hj
end Pb
end
namespace Dm
def st:Nat -> Nat -> Nat × Nat
 | M,0=>(M,0)
 | M,s + 1=>if M % 10 = 0 then st (M / 10) s else (M,s + 1)
def cg (g:Bool) (M:Nat):Bool:=if M = 0 then false else g
end Dm
section
open Go.RowKit Um
namespace Ur
theorem ret_int {k:IntKind} {a b:Int} (h:a = b):Ending.returned (.int k a) = .returned (.int k b):=by rw [h]
theorem ret_str {a b:ByteArray} (h:a = b):Ending.returned (.string a) = .returned (.string b):=by rw [h]
theorem vt {c:Int} (h:0 <= c /\ c <= 1114111 /\ (c < 55296 \/ 57343 < c)):vld c = true:=(vld_iff c).2 h
theorem vf {c:Int} (h:¬ (0 <= c /\ c <= 1114111 /\ (c < 55296 \/ 57343 < c))):vld c = false:=(vld_false c).2 h
theorem may_any (c:Int) (w:World) :
  Calls Tryz.prog 161 #[.int .i64 c] w fun e w'=>e = .returned (.bool (vld c)) /\ w = w':=by
 by_cases h1:0 <= c
 ·by_cases h2:c <= 1114111
  ·by_cases h3:c < 55296
   ·rw [vt ⟨h1,h2,.inl h3⟩]
    go_enter Tryz.func161,Tryz.ntmps161
    go_wp2
    go_ret
    exact ⟨rfl,rfl⟩
   ·by_cases h4:57343 < c
    ·rw [vt ⟨h1,h2,.inr h4⟩]
     go_enter Tryz.func161,Tryz.ntmps161
     go_wp2
     go_ret
     exact ⟨rfl,rfl⟩
    ·rw [vf (by omega)]
     go_enter Tryz.func161,Tryz.ntmps161
     go_wp2
     go_ret
     exact ⟨rfl,rfl⟩
  ·rw [vf (by omega)]
   go_enter Tryz.func161,Tryz.ntmps161
   go_wp2
   go_ret
   exact ⟨rfl,rfl⟩
 ·rw [vf (by omega)]
  go_enter Tryz.func161,Tryz.ntmps161
  go_wp2
  go_ret
  exact ⟨rfl,rfl⟩
theorem around_any (n m:Int) (w:World) (h0:-9223372036854775808 <= n) (h1:n <= 9223372036854775807) (hm:1 <= m) (hm2:m <= 9223372036854775807) :
  Calls Tryz.prog 24 #[.int .i64 n,.int .i64 m] w fun e w'=>e = .returned (.int .i64 (around n m)) /\ w = w':=by
 by_cases hn:n < 0
 ·have HA:Hid (around n m = (-(n + 1)) % m):=Hd (by unfold around;rw [if_pos hn])
  go_enter Tryz.func24,Tryz.ntmps24
  go_wp2
  go_ret
  rw [HA.out];exact ⟨ret_int (by rw [<- Int.tmod_eq_emod_of_nonneg (by omega),Int.neg_tmod]),rfl⟩
 ·have HA:Hid (around n m = n % m):=Hd (by unfold around;rw [if_neg hn])
  go_enter Tryz.func24,Tryz.ntmps24
  go_wp2
  go_ret
  rw [HA.out];exact ⟨rfl,rfl⟩
end Ur
end
section
open Go.RowKit
def Bk (w:World) (b:Nat) (T:TypeId) (l:List Value):Prop:=w.heap[b]? = some (.cells l.toArray T (0,0))
theorem Bk.lt {w:World} {b:Nat} {T:TypeId} {l:List Value} (h:Bk w b T l):b < w.heap.size:=(Array.getElem?_eq_some_iff.1 h).1
theorem Bk.q {w w':World} {b:Nat} {T:TypeId} {l:List Value} (h:Bk w b T l) (hq:Q w w'):Bk w' b T l:=(hq.block h.lt).trans h
theorem Bk.cell {w:World} {b:Nat} {T:TypeId} {l:List Value} (h:Bk w b T l) (i:Nat) {v:Value} (hv:l[i]? = some v):w.cell? ⟨b,i,none⟩ = some v:=by
 rw [Lib.cell_of_heap h];simpa using hv
theorem Bk.free {w:World} {b:Nat} {T:TypeId} {l:List Value} (h:Bk w b T l) (i:Nat):w.frozen? ⟨b,i,none⟩ = false:=Lib.frozen_of_heap h i
theorem Bk.set {w:World} {b:Nat} {T:TypeId} {l:List Value} (h:Bk w b T l) (i:Nat) (v:Value):Bk (w.setCell ⟨b,i,none⟩ v) b T (l.set i v):=by
 have:=Joins.block_setCell h v (i:=i);unfold Bk;rw [this,List.setIfInBounds_toArray]
theorem Bk.new (w:World) (T:TypeId) (l:List Value):Bk (w.alloc (.cells l.toArray T)) w.heap.size T l:=heap_alloc_new _ _
theorem Bk.past {w:World} {b g i:Nat} {T:TypeId} {l:List Value} (h:Bk w b T l) (hg:g ≠ b) (v:Value):Bk (w.setCell ⟨g,i,none⟩ v) b T l:=by
 exact ((Gap.setCell w g i v g (g + 1) (Nat.le_refl _) (Nat.lt_succ_self _)).block b h.lt (by omega)).trans h
theorem cell_past {w:World} {b g i o:Nat} {u:Value} (h:w.cell? ⟨b,o,none⟩ = some u) (hb:b < w.heap.size) (hg:g ≠ b) (v:Value):(w.setCell ⟨g,i,none⟩ v).cell? ⟨b,o,none⟩ = some u :=
 (World.cell?_of_block (w:=w) ((Gap.setCell w g i v g (g + 1) (Nat.le_refl _) (Nat.lt_succ_self _)).block b hb (by omega))).trans h
theorem ret_bk {fn:Func} {p:Tmp} {T:TypeId} (h:fn.results = #[.cell p T]) {R:Ending -> World -> Prop} {a:Act} {w:World} {g:Nat} {l:List Value} {fs:_}
  (hu:Tryz.prog.underlying T = some (.struct fs)) (hi:(Tryz.prog.info? T).map (·.size) = some l.length)
  (hp:a.tmps.getD p undef = .pointer (some ⟨g,0,none⟩)) (hg:Bk w g T l) (hdf:a.defers = []) (hR:R (.returned (.agg l.toArray)) w):bodyPost Tryz.prog fn R .ret a w :=
 bodyPost_ret (results_cell_row h a.tmps w g T l.toArray (0,0) _ hp hg hu rfl (by simpa using hi)) hdf hR
end
end Go.Proofs.YteggfkbnnmpcjaaGreatDoor
