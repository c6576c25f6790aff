/- The document's own answers on states: where a way leads, what is selected, the sign turned, a move. (and more) -/
import Derived.Test.YtnehhbobhnmbcaaR21
set_option linter.all false
set_option maxRecDepth 100000
set_option maxHeartbeats 8000000
namespace Go.Proofs.Ytnehhbobhnmbcaa
section
open Go.RowKit
namespace Re
open Ed Tm
theorem infoS:(Try.prog.info? 26).map (·.size) = some 6:=by kernel_rfl
theorem ret_st {fn:Func} {p x:Tmp} (h:fn.results = #[.cell p 26,.tmp x]) {R:Ending -> World -> Prop} {a:Act} {w:World} {g:Nat} {l:List Value} {u:Value}
  (hl:l.length = 6) (hp:a.tmps.getD p undef = .pointer (some ⟨g,0,none⟩)) (hx:a.tmps.getD x undef = u) (hg:Bk w g 26 l) (hdf:a.defers = []) (hR:R (.returned (.tuple #[.agg l.toArray,u])) w):bodyPost Try.prog fn R .ret a w:=by
 refine bodyPost_ret (v:=.tuple #[.agg l.toArray,u]) ?_ hdf hR;have h1:=run_loadVar_row w g 26 26 l.toArray (0,0) _ hg Try.underlying26 rfl (by rw [infoS];simp [hl]);have hp':a.tmps[p]?.getD undef = .pointer (some ⟨g,0,none⟩):=by simpa using hp
 have hx':a.tmps[x]?.getD undef = u:=by simpa using hx
 simp [results,h,hp',hx',asAddr,Sem.run_bind,Result.andThen,h1]
theorem way_any (g s:Bool) (a1 a2:Option Addr) (n1 n2 c1 c2:Nat) (I F:List Int) (c:Nat) (a wh:Int) (w:World) (hi:Lst w (.slice a1 n1 c1) I) (hf:Lst w (.slice a2 n2 c2) F) (k1:I.length = n1) (k2:F.length = n2) (l1:n1 <= 100000) (l2:n2 <= 100000) (hc:c <= (ats ⟨g,I,s,F⟩).length) :
  Calls Try.prog 45 #[.agg #[.bool g,.slice a1 n1 c1,.bool s,.slice a2 n2 c2,.int .i64 c,.int .i64 a],.int .i64 wh] w fun e w'=>e = .returned (.int .i64 (way ⟨⟨g,I,s,F⟩,c,a⟩ wh)) /\ Q w w':=by
 have HA:=Hd (fun u (q:Q w u)=>Tr.atoms_any g s a1 a2 n1 n2 c1 c2 I F u (hi.q q) (hf.q q) k1 k2 l1 l2);have hn:(ats ⟨g,I,s,F⟩).length = n1 + (sep s).length + n2:=by rw [ats_len,k1,k2]
 have hsl:=sep_len s;have hAT:I ++ sep s ++ F = ats ⟨g,I,s,F⟩:=rfl;rw [hAT] at HA;have HR:=Hd (show way ⟨⟨g,I,s,F⟩,c,a⟩ wh = if wh = 0 then max ((c:Int) - 1) 0 else if wh = 1 then min ((c:Int) + 1) ((n1 + (sep s).length + n2:Nat):Int) else if wh = 2 then (wordL (ats ⟨g,I,s,F⟩) c:Nat)
   else if wh = 3 then (wordR (ats ⟨g,I,s,F⟩) c:Nat) else if wh = 4 then 0 else ((n1 + (sep s).length + n2:Nat):Int) from by
  unfold way len;dsimp only;rw [hn];rfl)
 generalize way ⟨⟨g,I,s,F⟩,c,a⟩ wh = RR at *;generalize ats ⟨g,I,s,F⟩ = AT at *;have hnb:n1 + (sep s).length + n2 <= 200001:=by omega
 generalize n1 + (sep s).length + n2 = n at *;have HWR:=Hd (fun v u (h:Lst u v AT)=>word_right v AT c u h hc (by omega));have HWL:=Hd (fun v u (h:Lst u v AT)=>word_left v AT c u h hc (by omega));rw [hn] at hc;obtain ⟨y,hy⟩:∃ z,z = w.alloc (.cells #[.bool g,.slice a1 n1 c1,.bool s,.slice a2 n2 c2,.int .i64 c,.int .i64 a] 26):=⟨_,rfl⟩;have HQY:=Hd (show Q w y by rw [hy];exact (Q.refl w).alloc _);obtain ⟨bS,hbS⟩:∃ b,b = w.heap.size:=⟨_,rfl⟩;have hby:Bk y bS 26 [.bool g,.slice a1 n1 c1,.bool s,.slice a2 n2 c2,.int .i64 c,.int .i64 a]:=by rw [hy,hbS];exact Bk.new _ _ _
 have HBY:=Hd hby
 have x0:=hby.cell 0 rfl;have x1:=hby.cell 1 rfl;have x2:=hby.cell 2 rfl;have x3:=hby.cell 3 rfl;clear hi hf k1 k2 hn hby hAT;go_enter Try.func45,Try.ntmps45
 go_upto_region 1 with fail
 rw [<- hy,<- hbS];clear hy hbS;go_wp2_with fail
 refine (HA.out _ HQY.out).mono ?_;rintro e y1 ⟨av,ac,rfl,ho,hq1⟩;have HQ1:=Hd (HQY.out.trans hq1);have HL:=Hd ho.lst;have hb1:=HBY.out.q hq1;clear x0 x1 x2 x3 hq1 ho;have x4:=hb1.cell 4 rfl;clear hb1;by_cases h0:wh = 0
 ·replace HR:=Hd (HR.out.trans (if_pos h0))
  subst h0;by_cases hz:c = 0
  ·subst hz
   go_wp2_with fail
   go_ret
   exact ⟨by rw [HR.out];rfl,HQ1.out⟩
  ·have q1:max ((c:Int) - 1) 0 = (c:Int) - 1:=by omega
   have q2:¬ (c:Int) - 1 < 0:=by omega
   rw [q1] at HR;go_wp2_with fail
   go_ret
   exact ⟨by rw [HR.out];rfl,HQ1.out⟩
 ·replace HR:=Hd (HR.out.trans (if_neg h0))
  by_cases h1:wh = 1
  ·replace HR:=Hd (HR.out.trans (if_pos h1))
   subst h1;by_cases hz:c < n
   ·have q1:min ((c:Int) + 1) (n:Int) = (c:Int) + 1:=by omega
    have q2:¬ (n:Int) < (c:Int) + 1:=by omega
    rw [q1] at HR;go_wp2_with fail
    go_ret
    exact ⟨by rw [HR.out];rfl,HQ1.out⟩
   ·have q1:min ((c:Int) + 1) (n:Int) = (n:Int):=by omega
    have q2:(n:Int) < (c:Int) + 1:=by omega
    rw [q1] at HR;go_wp2_with fail
    go_ret
    exact ⟨by rw [HR.out];rfl,HQ1.out⟩
  ·replace HR:=Hd (HR.out.trans (if_neg h1))
   by_cases h2:wh = 2
   ·replace HR:=Hd (HR.out.trans (if_pos h2))
    subst h2;go_wp2_with fail
    refine (HWL.out _ _ HL.out).mono ?_;rintro e y2 ⟨rfl,rfl⟩;go_wp2_with fail
    go_ret
    exact ⟨by rw [HR.out];rfl,HQ1.out⟩
   ·replace HR:=Hd (HR.out.trans (if_neg h2))
    by_cases h3:wh = 3
    ·replace HR:=Hd (HR.out.trans (if_pos h3))
     subst h3;go_wp2_with fail
     refine (HWR.out _ _ HL.out).mono ?_;rintro e y2 ⟨rfl,rfl⟩;go_wp2_with fail
     go_ret
     exact ⟨by rw [HR.out];rfl,HQ1.out⟩
    ·replace HR:=Hd (HR.out.trans (if_neg h3))
     by_cases h4:wh = 4
     ·replace HR:=Hd (HR.out.trans (if_pos h4))
      subst h4;go_wp2_with fail
      go_ret
      exact ⟨by rw [HR.out];rfl,HQ1.out⟩
     ·replace HR:=Hd (HR.out.trans (if_neg h4))
      go_wp2_with fail
      go_ret
      exact ⟨by rw [HR.out];rfl,HQ1.out⟩
end Re
end
end Go.Proofs.Ytnehhbobhnmbcaa
