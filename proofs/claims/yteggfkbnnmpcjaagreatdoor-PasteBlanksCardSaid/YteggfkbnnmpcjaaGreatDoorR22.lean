/- What the program's Text, Tags and Find of a list of items answer, what the document's own Text does; the statements' own as and same. (and more) -/
import Derived.Test.YteggfkbnnmpcjaaGreatDoorR20
set_option linter.all false
set_option maxRecDepth 100000
set_option maxHeartbeats 8000000
namespace Go.Proofs.YteggfkbnnmpcjaaGreatDoor
section
open Go.RowKit
namespace Im
def txI (l:List E):List UInt8:=l.flatMap fun e=>e.2.1.data.toList
theorem txI_take (l:List E) (k:Nat) (hk:k < l.length):txI (l.take (k + 1)) = txI (l.take k) ++ (l.getD k e0).2.1.data.toList:=by
 unfold txI;rw [List.take_add_one,List.getElem?_eq_getElem hk,List.flatMap_append,List.getD_eq_getElem?_getD,List.getElem?_eq_getElem hk];simp
theorem txI_le (l:List E) (k:Nat):(txI (l.take k)).length <= (txI l).length:=by
 have h:txI l = txI (l.take k) ++ txI (l.drop k):=by
  unfold txI;rw [<- List.flatMap_append,List.take_append_drop]
 rw [h,List.length_append];omega
end Im
namespace It
open Um Im
theorem rtext_any (v:Value) (l:List E) (w:World) (hv:LstI w v l) (hl:l.length <= 1000000) (hz:(txI l).length <= 1000000) :
  Calls Tryz.prog 44 #[v] w fun e w'=>e = .returned (.string ⟨(txI l).toArray⟩) /\ Q w w':=by
 obtain ⟨n,hn⟩:∃ n,n = l.length:=⟨_,rfl⟩;obtain ⟨a,cp,rfl,hc1,hc2⟩:=hv.form0 hn.symm;have HV:=Hd (fun k (h:k < n)=>hv.cellOf hn.symm h);rw [<- hn] at hl;obtain ⟨T,hT⟩:∃ T:Nat -> List UInt8,T = fun k=>txI (l.take k):=⟨_,rfl⟩;have HT1:=Hd (show txI l = T n by rw [hT,hn];simp);have HTS:=Hd (show ∀ k,k < n -> T (k + 1) = T k ++ (l.getD k e0).2.1.data.toList from fun k hk=>by rw [hT];exact txI_take l k (by omega));have HTL:=Hd (show ∀ k,(T k).length <= 1000000 from fun k=>by rw [hT];exact Nat.le_trans (txI_le l k) hz);have HT0:=Hd (show T 0 = [] by rw [hT];rfl);rw [HT1.out];unfold maxLen at hc2;clear hn hv hT hz;go_enter Tryz.func44,Tryz.ntmps44
 go_wp2_with fail
 go_loop [3,4] (fun s i=>∃ k:Nat,i = .int .i64 k /\ k <= n /\ ∃ S:ByteArray,s = .string S /\ Hid (S = ⟨(T k).toArray⟩)) (fun _ i=>n - (intOf i).toNat)
 case atStart=>exact ⟨0,rfl,by omega,_,rfl,Hd (by rw [HT0.out])⟩
 case round =>
  obtain ⟨k,rfl,hk,S,rfl,HS⟩:=hrel;by_cases hlt:k < n
  ·obtain ⟨g,off,cap,hvv,hg,_,_,c1,c2,c3⟩:=HV.out k hlt
   cases hvv;have hts:=HTS.out k hlt;have htl:=HTL.out (k + 1);generalize l.getD k e0 = x at *;obtain ⟨xa,xt,xb⟩:=x;dsimp only at c1 c2 c3 hts;rw [hts,List.length_append,size_list] at htl;have hss:S.size = (T k).length:=by rw [HS.out];simp [ByteArray.size]
   have hsz:S.size + xt.size <= 1000000:=by omega
   have hno:¬ 9223372036854775807 < S.size + xt.size:=by omega
   have HTS1:=Hd (show S ++ xt = ⟨(T (k + 1)).toArray⟩ by
    rw [hts,HS.out];apply ByteArray.ext;rw [ByteArray.data_append];apply Array.ext';simp)
   clear hts htl hss;go_wp2_with fail
   exact ⟨⟨k + 1,by go_num,by omega,_,rfl,HTS1⟩,by simp [intOf];omega⟩
  ·obtain rfl:k = n:=by omega
   go_wp2_with fail
   go_ret
   exact ⟨by rw [HS.out];rfl,Q.refl _⟩
end It
end
section
open Go.RowKit
namespace Pg
open Pt Um
@[reducible] def pv (a b c d:Value) (p s i m x:Int):Value:=.agg #[a,b,c,d,.int .i64 p,.int .i64 s,.int .i64 i,.int .i64 m,.int .i64 x]
def PV (w:World) (B:Nat) (v:Value) (X:Pat):Prop:=∃ a b c d,v = pv a b c d X.pr X.se X.mi X.mf X.xf /\ Pc.New w B a X.pre /\ Pc.New w B b X.suf /\ Pc.New w B c X.npre /\ Pc.New w B d X.nsuf
theorem PV.q {w w':World} {B:Nat} {v:Value} {X:Pat} (h:PV w B v X) (hq:Q w w'):PV w' B v X:=by
 obtain ⟨a,b,c,d,h,h1,h2,h3,h4⟩:=h;exact ⟨a,b,c,d,h,h1.q hq,h2.q hq,h3.q hq,h4.q hq⟩
theorem PV.mono {w:World} {B B':Nat} {v:Value} {X:Pat} (h:PV w B v X) (hB:B' <= B):PV w B' v X:=by
 obtain ⟨a,b,c,d,h,h1,h2,h3,h4⟩:=h;exact ⟨a,b,c,d,h,h1.mono hB,h2.mono hB,h3.mono hB,h4.mono hB⟩
def PS (X:Pat):Prop:=X.pre.length <= 1000000 /\ X.suf.length <= 1000000 /\ X.npre.length <= 1000000 /\ X.nsuf.length <= 1000000
end Pg
end
end Go.Proofs.YteggfkbnnmpcjaaGreatDoor
