/- Lists whose numbers are made digits, one by one. (and more) -/
import Derived.Test.YtnehhbobhnmbcaaR19
set_option linter.all false
set_option maxRecDepth 100000
set_option maxHeartbeats 8000000
namespace Go.Proofs.Ytnehhbobhnmbcaa
section
namespace El
open Ed Tm Dm
def mix (A:List Int) (k:Nat):List Int:=(A.take k).map (fun x=>x.tmod 10) ++ A.drop k
theorem fits_len {d:T} {l:L} {k:Nat} (h:fits d l = true) (h1:l.i <= k) (h2:l.f <= k):d.i.length <= k /\ d.f.length <= k:=by
 unfold fits at h;rw [Bool.and_eq_true,decide_eq_true_eq,decide_eq_true_eq] at h;omega
theorem S0_len (k:Nat):(S0.d.i.length <= k) /\ (S0.d.f.length <= k):=⟨Nat.zero_le _,Nat.zero_le _⟩
theorem ers_len {s:S} {l:L} {w:Int} {k:Nat} (h1:l.i <= k) (h2:l.f <= k):(ers s l w).1.d.i.length <= k /\ (ers s l w).1.d.f.length <= k:=by
 unfold ers;split
 ·split
  ·exact S0_len k
  ·split
   ·rename_i h
    exact fits_len h h1 h2
   ·exact S0_len k
 ·exact S0_len k
theorem ins_len {s:S} {l:L} {A:List Int} {k:Nat} (h1:l.i <= k) (h2:l.f <= k):(ins s l A).1.d.i.length <= k /\ (ins s l A).1.d.f.length <= k:=by
 unfold ins;split
 ·split
  ·split
   ·rename_i h
    exact fits_len h h1 h2
   ·exact S0_len k
  ·exact S0_len k
 ·exact S0_len k
theorem put_len {s:S} {l:L} {g:Bool} {A:List Int} {k:Nat} (h1:l.i <= k) (h2:l.f <= k):(put s l g A).1.d.i.length <= k /\ (put s l g A).1.d.f.length <= k:=by
 unfold put;split
 ·split
  ·exact S0_len k
  ·exact ins_len h1 h2
 ·exact S0_len k
theorem mov_len {s:S} {h:Int} {b:Bool} {k:Nat} (h1:s.d.i.length <= k) (h2:s.d.f.length <= k):(mov s h b).1.d.i.length <= k /\ (mov s h b).1.d.f.length <= k:=by
 unfold mov;split
 ·exact ⟨h1,h2⟩
 ·exact S0_len k
theorem sel_len {s:S} {a c:Int} {k:Nat} (h1:s.d.i.length <= k) (h2:s.d.f.length <= k):(sel s a c).1.d.i.length <= k /\ (sel s a c).1.d.f.length <= k:=by
 unfold sel;split
 ·split
  ·exact ⟨h1,h2⟩
  ·exact S0_len k
 ·exact S0_len k
theorem tog_len {s:S} {l:L} {k:Nat} (h1:s.d.i.length <= k) (h2:s.d.f.length <= k):(tog s l).1.d.i.length <= k /\ (tog s l).1.d.f.length <= k:=by
 unfold tog;split
 ·split
  ·exact ⟨h1,h2⟩
  ·exact S0_len k
 ·exact S0_len k
theorem mix_zero (A:List Int):mix A 0 = A:=rfl
theorem mix_len (A:List Int) (k:Nat):(mix A k).length = A.length:=by
 unfold mix;rw [List.length_append,List.length_map,List.length_take,List.length_drop];omega
theorem mix_at (A:List Int) (k:Nat) (hk:k < A.length):(mix A k).getD k 0 = A.getD k 0:=by
 unfold mix;rw [List.getD_eq_getElem?_getD,List.getElem?_append_right (by rw [List.length_map,List.length_take];omega),List.length_map,List.length_take,List.getElem?_drop,List.getD_eq_getElem?_getD,show k + (k - min k A.length) = k by omega]
theorem mix_set (A:List Int) (k:Nat) (hk:k < A.length):(mix A k).set k ((A.getD k 0).tmod 10) = mix A (k + 1):=by
 unfold mix;rw [List.set_append,if_neg (by rw [List.length_map,List.length_take];omega),List.length_map,List.length_take,show k - min k A.length = 0 by omega,List.drop_eq_getElem_cons hk,List.set_cons_zero,List.take_succ_eq_append_getElem hk,List.map_append,List.append_assoc];have e:A.getD k 0 = A[k]:=by rw [List.getD_eq_getElem?_getD,List.getElem?_eq_getElem hk];rfl
 rw [e];rfl
theorem mix_all (A:List Int) (h:okA A = true):okD (mix A A.length):=by
 unfold mix;rw [List.take_length,List.drop_length,List.append_nil];intro x hx;obtain ⟨y,hy,rfl⟩:=List.mem_map.1 hx;have hb:=(okA_iff A).1 h y hy;have h1:=Int.tmod_nonneg 10 hb.1;have h2:=Int.tmod_lt_of_pos y (show (0:Int) < 10 by omega);omega
end El
end
end Go.Proofs.Ytnehhbobhnmbcaa
