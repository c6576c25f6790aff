/- What the document's own Same, Few and Times of decimals come to, by a walk through each. (and more) -/
import Derived.Test.YtnehhbobhnmbcaaR11
import Derived.Test.YtnehhbobhnmbcaaR12
set_option linter.all false
set_option maxRecDepth 100000
set_option maxHeartbeats 8000000
namespace Go.Proofs.Ytnehhbobhnmbcaa
section
open Go.RowKit
namespace Er
theorem wrapI {x:Int} (h0:-9223372036854775808 <= x) (h1:x <= 9223372036854775807):IntKind.i64.wrap x = x:=by
 rw [IntKind.wrap_i64];omega
end Er
end
section
open Go.RowKit
namespace Dw
theorem n99:Dm.dg (Dm.num [9,9] + Dm.num [1]) = [1,0,0]:=by decide +kernel
theorem n1:Dm.dg (Dm.num [1,0,0] - Dm.num [9,9]) = [1]:=by decide +kernel
theorem okA1:Dm.okD [9,9]:=by intro d hd;simp at hd;omega
theorem okA2:Dm.okD [1]:=by intro d hd;simp at hd;omega
theorem okA3:Dm.okD [1,0,0]:=by intro d hd;simp at hd;omega
theorem lits (w:World) (xs ys:List Int) (n m:Nat) (hx:xs.length = n) (hy:ys.length = m) (hn:n <= maxLen) (hm:m <= maxLen) :
  Lst ((w.alloc (.cells (xs.map (Value.int .i64)).toArray 3)).alloc (.cells (ys.map (Value.int .i64)).toArray 3)) (.slice (some ⟨w.heap.size,0,none⟩) n n) xs /\
  Lst ((w.alloc (.cells (xs.map (Value.int .i64)).toArray 3)).alloc (.cells (ys.map (Value.int .i64)).toArray 3)) (.slice (some ⟨w.heap.size + 1,0,none⟩) m m) ys:=by
 refine ⟨(Lst.made w xs n hx hn).q ((Q.refl _).alloc _),?_⟩;have h:=Lst.made (w.alloc (.cells (xs.map (Value.int .i64)).toArray 3)) ys m hy hm;have e:(w.alloc (.cells (xs.map (Value.int .i64)).toArray 3)).heap.size = w.heap.size + 1:=by simp
 rw [e] at h;exact h
theorem live_same (w:World) (v:Value) (xs:List Int) (n:Nat) (hv:Lst w v xs) (hn:xs.length = n) (hm:n < 1000000) :
  Calls Try.prog 55 #[v,.slice (some ⟨w.heap.size,0,none⟩) n n] (w.alloc (.cells (xs.map (Value.int .i64)).toArray 3)) fun e w'=>e = .returned (.bool true) /\ Q w w':=by
 have h:=Ur.same_any v _ xs xs _ (hv.q ((Q.refl w).alloc (.cells (xs.map (Value.int .i64)).toArray 3))) (Lst.made w xs n hn (by unfold maxLen;omega)) (by omega) (by omega);refine h.mono ?_;rintro e w' ⟨rfl,hq⟩;exact ⟨by simp,((Q.refl w).alloc _).trans hq⟩
end Dw
end
section
open Go.RowKit
theorem copy_behind {w:World} {B g n z:Nat} {zs xs:List Int} {u:Value} (hown:Own w B (.slice (some ⟨g,0,none⟩) n n) zs) (hn:zs.length = n) (hu:Lst w u xs) {ops:Array Oper} {rest:List Oper} {o:Oper} {a:Act} {R:Exit -> Act -> World -> Prop} (hgd:o.guard = none) (d s:Operand)
  (ho:o.op = .call { callee:=.builtin .copy,args:=#[d,s],argTypes:=#[22,22] }) (dp:Option Addr) (m dc:Nat) (hd:a.eval d = .slice dp m dc) (hs:a.eval s = u)
  (hdp:0 < xs.length -> dp = some ⟨g,z,none⟩) (hm:xs.length <= m) (hz:z + m = n) (Z:List Int) (hZ:zs.take z ++ xs ++ zs.drop (z + xs.length) = Z)
  (h:∀ w' v,Own w' B (.slice (some ⟨g,0,none⟩) n n) Z -> Below B w w' -> wpList Try.prog ops R rest (a.put o.dst v) w') :
  wpList Try.prog ops R (o :: rest) a w:=by
 subst hZ;obtain ⟨hh,hB,hmx⟩:=hown.full hn;obtain ⟨sp,sc,rfl,hnc,hcm⟩:=hu.shape2;have hcl:(xs.map (Value.int .i64)).length = xs.length:=by simp
 refine wpList_copy_splice hgd d s _ _ ho 3 Try.underlying22 sizeInt dp sp m dc xs.length sc hd hs g z (zs.map (Value.int .i64)) 3 hh (xs.map (Value.int .i64)) (by rw [hcl];exact (Nat.min_eq_left hm).symm) ?_ (by rw [hcl,List.length_map];omega) ?_ B w (Below.refl _ _) hB ?_
 ·intro hpos
  rw [hcl] at hpos;refine ⟨hdp hpos,?_⟩;rcases hu with ⟨rfl,_⟩ | ⟨g2,off,cap,hv,hg,h1,h2,hc⟩
  ·simp at hpos
  ·cases hv
   refine ⟨_,rfl,fun j v hj=>?_⟩;have hjl:=(List.getElem?_eq_some_iff.1 hj).1;rw [hcl] at hjl;have hadd:(⟨g2,off,none⟩:Addr).add j = ⟨g2,off + j,none⟩:=by unfold Addr.add;split <;> simp_all
   rw [hadd,hc j (by omega)];rw [List.getElem?_map,List.getElem?_eq_getElem hjl] at hj;rw [List.getD_eq_getElem?_getD,List.getElem?_eq_getElem hjl];simpa using hj
 ·intro v hv
  obtain ⟨_,_,rfl⟩:=List.mem_map.1 hv;rfl
 ·intro w' hw' hb'
  have hw:=hw'.out;refine h w' _ (Own.ofFull ?_ ?_ hB hmx) hb'
  ·rw [hw]
   unfold splice;rw [hcl,List.map_append,List.map_append,List.map_drop,List.map_take,List.append_assoc]
  ·rw [List.length_append,List.length_append,List.length_take,List.length_drop,hn];omega
namespace Ep
open Er
def sg (g:Bool) (M:Nat):Int:=if M = 0 then 0 else if g = true then -1 else 1
theorem zer_all (L:List Int) (h:Dm.okD L):Dm.zer L = L.length ↔ Dm.num L = 0:=by
 have h1:=Dm.trim_len L;have h2:=Dm.trim_eq L h;have h3:=Dm.zer_le L;constructor
 ·intro e
  have:(Dm.trimL L).length = 0:=by omega
  have h4:=List.eq_nil_of_length_eq_zero this;rw [h4] at h2;exact (Dm.dg_nil _).1 h2.symm
 ·intro e
  rw [e,Dm.dg_zero] at h2;rw [h2] at h1;simp at h1;omega
end Ep
end
section
open Go.RowKit
namespace Er
theorem num_shl (L:List Int) (k:Nat):Dm.num (Dm.shl L k) = Dm.num L * 10 ^ k:=by rw [Dm.shl_pos,Dm.num_zeros]
theorem okD_shl (L:List Int) (k:Nat) (h:Dm.okD L):Dm.okD (Dm.shl L k):=by
 rw [Dm.shl_pos,Dm.okD_append];refine ⟨h,fun d hd=>?_⟩;have:=List.eq_of_mem_replicate hd;omega
end Er
end
end Go.Proofs.Ytnehhbobhnmbcaa
