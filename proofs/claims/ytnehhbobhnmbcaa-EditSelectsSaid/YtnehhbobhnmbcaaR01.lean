/- Characters and their bytes, in plain Lean: what a text's characters are, and what of them is told again. No program is named here. (and more) -/
import Derived.Test.YtnehhbobhnmbcaaR00
import Derived.Laws.RangeAny
import Derived.Laws.Runes
import Derived.Lib.Strings
set_option linter.all false
set_option maxRecDepth 100000
set_option maxHeartbeats 8000000
namespace Go.Proofs.Ytnehhbobhnmbcaa
namespace Um
def vld (c:Int):Bool:=Utf8.valid c
theorem vld_iff (c:Int):vld c = true ↔ (0 <= c /\ c <= 1114111 /\ (c < 55296 \/ 57343 < c)):=by
 unfold vld;rw [validRune_eq];unfold validRune;rw [decide_eq_true_iff];omega
theorem vld_false (c:Int):vld c = false ↔ ¬ (0 <= c /\ c <= 1114111 /\ (c < 55296 \/ 57343 < c)):=by
 rw [<- vld_iff];cases vld c <;> simp
def enc (c:Int):List UInt8:=(Utf8.encode c).data.toList
theorem enc1 (c:Int) (h0:0 <= c) (h:c < 128):enc c = [UInt8.ofNat c.toNat]:=by
 have hv:Utf8.valid c = true:=(vld_iff c).2 (by omega);unfold enc Utf8.encode;simp only [hv,if_true];rw [if_pos (by omega)]
theorem enc2 (c:Int) (h0:128 <= c) (h:c < 2048):enc c = [UInt8.ofNat (192 + c.toNat / 64),UInt8.ofNat (128 + c.toNat % 64)]:=by
 have hv:Utf8.valid c = true:=(vld_iff c).2 (by omega);unfold enc Utf8.encode;simp only [hv,if_true];rw [if_neg (by omega),if_pos (by omega)]
theorem enc3 (c:Int) (h0:2048 <= c) (h:c < 65536) (hv:vld c = true):enc c = [UInt8.ofNat (224 + c.toNat / 4096),UInt8.ofNat (128 + c.toNat / 64 % 64),UInt8.ofNat (128 + c.toNat % 64)]:=by
 have hv:Utf8.valid c = true:=hv;unfold enc Utf8.encode;simp only [hv,if_true];rw [if_neg (by omega),if_neg (by omega),if_pos (by omega)]
theorem enc4 (c:Int) (h0:65536 <= c) (hv:vld c = true):enc c = [UInt8.ofNat (240 + c.toNat / 262144),UInt8.ofNat (128 + c.toNat / 4096 % 64),UInt8.ofNat (128 + c.toNat / 64 % 64),UInt8.ofNat (128 + c.toNat % 64)]:=by
 have hv:Utf8.valid c = true:=hv;unfold enc Utf8.encode;simp only [hv,if_true];rw [if_neg (by omega),if_neg (by omega),if_neg (by omega)]
theorem forms (c:Int) (hv:vld c = true) :
  (0 <= c /\ c < 128 /\ enc c = [UInt8.ofNat c.toNat]) \/
  (128 <= c /\ c < 2048 /\ enc c = [UInt8.ofNat (192 + c.toNat / 64),UInt8.ofNat (128 + c.toNat % 64)]) \/
  (2048 <= c /\ c < 65536 /\ (c < 55296 \/ 57343 < c) /\ enc c = [UInt8.ofNat (224 + c.toNat / 4096),UInt8.ofNat (128 + c.toNat / 64 % 64),UInt8.ofNat (128 + c.toNat % 64)]) \/
  (65536 <= c /\ c <= 1114111 /\ enc c = [UInt8.ofNat (240 + c.toNat / 262144),UInt8.ofNat (128 + c.toNat / 4096 % 64),UInt8.ofNat (128 + c.toNat / 64 % 64),UInt8.ofNat (128 + c.toNat % 64)]):=by
 have h:=(vld_iff c).1 hv;by_cases h1:c < 128
 ·exact .inl ⟨h.1,h1,enc1 c h.1 h1⟩
 by_cases h2:c < 2048
 ·exact .inr (.inl ⟨by omega,h2,enc2 c (by omega) h2⟩)
 by_cases h3:c < 65536
 ·exact .inr (.inr (.inl ⟨by omega,h3,h.2.2,enc3 c (by omega) h3 hv⟩))
 ·exact .inr (.inr (.inr ⟨by omega,h.2.1,enc4 c (by omega) hv⟩))
def byt (l:List UInt8) (k:Nat):Nat:=(l.getD k 0).toNat
theorem byt_lt (l:List UInt8) (k:Nat):byt l k < 256:=(l.getD k 0).toNat_lt
def dec (l:List UInt8):Nat × Nat:=Utf8.decode ⟨l.toArray⟩ 0
theorem get_list (l:List UInt8) (k:Nat):((⟨l.toArray⟩:ByteArray).get! k).toNat = byt l k:=by
 unfold byt;show (l.toArray[k]!).toNat = _;congr 1
 simp [List.getD_eq_getElem?_getD,getElem!_def];cases l[k]? <;> rfl
theorem decode_dec (s:ByteArray) (i:Nat):Utf8.decode s i = dec (s.data.toList.drop i):=by
 have h1:∀ k,s.get! (i + k) = (⟨(s.data.toList.drop i).toArray⟩:ByteArray).get! (0 + k):=by
  intro k;show s.data[i + k]! = (s.data.toList.drop i).toArray[0 + k]!;simp [getElem!_def]
 have h2:∀ k,(i + k < s.size) = (0 + k < (⟨(s.data.toList.drop i).toArray⟩:ByteArray).size):=by
  intro k;have e1:s.size = s.data.size:=rfl;have e2:(⟨(s.data.toList.drop i).toArray⟩:ByteArray).size = s.data.size - i:=by
   show (s.data.toList.drop i).toArray.size = _;simp
  rw [e1,e2];apply propext;omega
 unfold dec Utf8.decode;simp only [h1,h2]
theorem dec_eq (l:List UInt8):dec l =
  if byt l 0 < 128 then (byt l 0,1)
  else if byt l 0 / 32 = 6 /\ 1 < l.length /\ byt l 1 / 64 = 2 then
   if (byt l 0 % 32) * 64 + byt l 1 % 64 ≥ 128 then ((byt l 0 % 32) * 64 + byt l 1 % 64,2) else (65533,1)
  else if byt l 0 / 16 = 14 /\ (1 < l.length /\ byt l 1 / 64 = 2) /\ 2 < l.length /\ byt l 2 / 64 = 2 then
   if (byt l 0 % 16) * 4096 + (byt l 1 % 64) * 64 + byt l 2 % 64 ≥ 2048 /\ vld (((byt l 0 % 16) * 4096 + (byt l 1 % 64) * 64 + byt l 2 % 64:Nat):Int) = true then ((byt l 0 % 16) * 4096 + (byt l 1 % 64) * 64 + byt l 2 % 64,3) else (65533,1)
  else if byt l 0 / 8 = 30 /\ (1 < l.length /\ byt l 1 / 64 = 2) /\ (2 < l.length /\ byt l 2 / 64 = 2) /\ 3 < l.length /\ byt l 3 / 64 = 2 then
   if (byt l 0 % 8) * 262144 + (byt l 1 % 64) * 4096 + (byt l 2 % 64) * 64 + byt l 3 % 64 ≥ 65536 /\ vld (((byt l 0 % 8) * 262144 + (byt l 1 % 64) * 4096 + (byt l 2 % 64) * 64 + byt l 3 % 64:Nat):Int) = true then ((byt l 0 % 8) * 262144 + (byt l 1 % 64) * 4096 + (byt l 2 % 64) * 64 + byt l 3 % 64,4) else (65533,1)
  else (65533,1):=by
 have hs:(⟨l.toArray⟩:ByteArray).size = l.length:=by show l.toArray.size = _;simp
 unfold dec Utf8.decode;simp only [Nat.zero_add,get_list,hs,Utf8.runeError,Bool.and_eq_true,decide_eq_true_eq,beq_iff_eq,vld,and_assoc];congr
theorem u8 {a:UInt8} {n:Nat} (h:a.toNat = n):a = UInt8.ofNat n:=by rw [<- h];exact UInt8.ofNat_toNat.symm
theorem u8_nat (n:Nat) (h:n < 256):(UInt8.ofNat n).toNat = n:=by simp;omega
theorem list1 {l:List UInt8} (h:0 < l.length):∃ a r,l = a :: r:=by
 match l,h with
 | a :: r,_=>exact ⟨a,r,rfl⟩
theorem list2 {l:List UInt8} (h:1 < l.length):∃ a b r,l = a :: b :: r:=by
 match l,h with
 | a :: b :: r,_=>exact ⟨a,b,r,rfl⟩
theorem list3 {l:List UInt8} (h:2 < l.length):∃ a b c r,l = a :: b :: c :: r:=by
 match l,h with
 | a :: b :: c :: r,_=>exact ⟨a,b,c,r,rfl⟩
theorem list4 {l:List UInt8} (h:3 < l.length):∃ a b c d r,l = a :: b :: c :: d :: r:=by
 match l,h with
 | a :: b :: c :: d :: r,_=>exact ⟨a,b,c,d,r,rfl⟩
theorem dec_enc (c:Int) (r:List UInt8) (hv:vld c = true):dec (enc c ++ r) = (c.toNat,(enc c).length):=by
 rcases forms c hv with ⟨h0,h1,e⟩ | ⟨h0,h1,e⟩ | ⟨h0,h1,h2,e⟩ | ⟨h0,h1,e⟩
 ·rw [e,dec_eq]
  have b0:byt ([UInt8.ofNat c.toNat] ++ r) 0 = c.toNat:=u8_nat _ (by omega);rw [b0,if_pos (by omega)];rfl
 ·have b0:byt (enc c ++ r) 0 = 192 + c.toNat / 64:=by rw [e];exact u8_nat _ (by omega)
  have b1:byt (enc c ++ r) 1 = 128 + c.toNat % 64:=by rw [e];exact u8_nat _ (by omega)
  have hl:1 < (enc c ++ r).length:=by rw [e];simp
  have hn:(enc c).length = 2:=by rw [e];rfl
  rw [dec_eq,b0,b1,if_neg (by omega),if_pos ⟨by omega,hl,by omega⟩,if_pos (by omega),hn];congr 1;omega
 ·have b0:byt (enc c ++ r) 0 = 224 + c.toNat / 4096:=by rw [e];exact u8_nat _ (by omega)
  have b1:byt (enc c ++ r) 1 = 128 + c.toNat / 64 % 64:=by rw [e];exact u8_nat _ (by omega)
  have b2:byt (enc c ++ r) 2 = 128 + c.toNat % 64:=by rw [e];exact u8_nat _ (by omega)
  have hl:2 < (enc c ++ r).length:=by rw [e];simp
  have hn:(enc c).length = 3:=by rw [e];rfl
  have hc:(224 + c.toNat / 4096) % 16 * 4096 + (128 + c.toNat / 64 % 64) % 64 * 64 + (128 + c.toNat % 64) % 64 = c.toNat:=by omega
  rw [dec_eq,b0,b1,b2,if_neg (by omega),if_neg (by omega),if_pos ⟨by omega,⟨by omega,by omega⟩,hl,by omega⟩,hc,if_pos ⟨by omega,by rw [show ((c.toNat:Nat):Int) = c from by omega];exact hv⟩,hn]
 ·have b0:byt (enc c ++ r) 0 = 240 + c.toNat / 262144:=by rw [e];exact u8_nat _ (by omega)
  have b1:byt (enc c ++ r) 1 = 128 + c.toNat / 4096 % 64:=by rw [e];exact u8_nat _ (by omega)
  have b2:byt (enc c ++ r) 2 = 128 + c.toNat / 64 % 64:=by rw [e];exact u8_nat _ (by omega)
  have b3:byt (enc c ++ r) 3 = 128 + c.toNat % 64:=by rw [e];exact u8_nat _ (by omega)
  have hl:3 < (enc c ++ r).length:=by rw [e];simp
  have hn:(enc c).length = 4:=by rw [e];rfl
  have hc:(240 + c.toNat / 262144) % 8 * 262144 + (128 + c.toNat / 4096 % 64) % 64 * 4096 + (128 + c.toNat / 64 % 64) % 64 * 64 + (128 + c.toNat % 64) % 64 = c.toNat:=by omega
  rw [dec_eq,b0,b1,b2,b3,if_neg (by omega),if_neg (by omega),if_neg (by omega),if_pos ⟨by omega,⟨by omega,by omega⟩,⟨by omega,by omega⟩,hl,by omega⟩,hc,if_pos ⟨by omega,by rw [show ((c.toNat:Nat):Int) = c from by omega];exact hv⟩,hn]
theorem dec_cases (l:List UInt8) (hl:l ≠ []) :
  (∃ c r,vld c = true /\ l = enc c ++ r /\ dec l = (c.toNat,(enc c).length)) \/ dec l = (65533,1):=by
 have key:∀ c:Int,vld c = true -> (∃ r,l = enc c ++ r) -> ∃ c r,vld c = true /\ l = enc c ++ r /\ dec l = (c.toNat,(enc c).length):=by
  rintro c hv ⟨r,hr⟩;exact ⟨c,r,hv,hr,by rw [hr];exact dec_enc c r hv⟩
 have g0:=byt_lt l 0;have g1:=byt_lt l 1;have g2:=byt_lt l 2;have g3:=byt_lt l 3;by_cases h1:byt l 0 < 128
 ·obtain ⟨a,r,rfl⟩:=list1 (List.length_pos_iff.2 hl)
  have b0:byt (a :: r) 0 = a.toNat:=rfl;refine .inl (key (a.toNat:Int) ((vld_iff _).2 (by omega)) ⟨r,?_⟩);rw [enc1 _ (by omega) (by omega)];simp
 by_cases h2:byt l 0 / 32 = 6 /\ 1 < l.length /\ byt l 1 / 64 = 2
 ·by_cases hc:(byt l 0 % 32) * 64 + byt l 1 % 64 ≥ 128
  ·obtain ⟨a,b,r,rfl⟩:=list2 h2.2.1
   have b0:byt (a :: b :: r) 0 = a.toNat:=rfl;have b1:byt (a :: b :: r) 1 = b.toNat:=rfl;refine .inl (key ((a.toNat % 32 * 64 + b.toNat % 64:Nat):Int) ((vld_iff _).2 (by omega)) ⟨r,?_⟩);rw [enc2 _ (by omega) (by omega),Int.toNat_natCast,<- u8 (a:=a) (by omega),<- u8 (a:=b) (by omega)];rfl
  ·right;rw [dec_eq,if_neg h1,if_pos h2,if_neg hc]
 by_cases h3:byt l 0 / 16 = 14 /\ (1 < l.length /\ byt l 1 / 64 = 2) /\ 2 < l.length /\ byt l 2 / 64 = 2
 ·by_cases hc:(byt l 0 % 16) * 4096 + (byt l 1 % 64) * 64 + byt l 2 % 64 ≥ 2048 /\ vld (((byt l 0 % 16) * 4096 + (byt l 1 % 64) * 64 + byt l 2 % 64:Nat):Int) = true
  ·obtain ⟨a,b,c,r,rfl⟩:=list3 h3.2.2.1
   have b0:byt (a :: b :: c :: r) 0 = a.toNat:=rfl;have b1:byt (a :: b :: c :: r) 1 = b.toNat:=rfl;have b2:byt (a :: b :: c :: r) 2 = c.toNat:=rfl;refine .inl (key _ hc.2 ⟨r,?_⟩);rw [enc3 _ (by omega) (by omega) hc.2,Int.toNat_natCast,<- u8 (a:=a) (by omega),<- u8 (a:=b) (by omega),<- u8 (a:=c) (by omega)];rfl
  ·right;rw [dec_eq,if_neg h1,if_neg h2,if_pos h3,if_neg hc]
 by_cases h4:byt l 0 / 8 = 30 /\ (1 < l.length /\ byt l 1 / 64 = 2) /\ (2 < l.length /\ byt l 2 / 64 = 2) /\ 3 < l.length /\ byt l 3 / 64 = 2
 ·by_cases hc:(byt l 0 % 8) * 262144 + (byt l 1 % 64) * 4096 + (byt l 2 % 64) * 64 + byt l 3 % 64 ≥ 65536 /\ vld (((byt l 0 % 8) * 262144 + (byt l 1 % 64) * 4096 + (byt l 2 % 64) * 64 + byt l 3 % 64:Nat):Int) = true
  ·obtain ⟨a,b,c,d,r,rfl⟩:=list4 h4.2.2.2.1
   have b0:byt (a :: b :: c :: d :: r) 0 = a.toNat:=rfl;have b1:byt (a :: b :: c :: d :: r) 1 = b.toNat:=rfl;have b2:byt (a :: b :: c :: d :: r) 2 = c.toNat:=rfl;have b3:byt (a :: b :: c :: d :: r) 3 = d.toNat:=rfl;refine .inl (key _ hc.2 ⟨r,?_⟩);rw [enc4 _ (by omega) hc.2,Int.toNat_natCast,<- u8 (a:=a) (by omega),<- u8 (a:=b) (by omega),<- u8 (a:=c) (by omega),<- u8 (a:=d) (by omega)];rfl
  ·right;rw [dec_eq,if_neg h1,if_neg h2,if_neg h3,if_pos h4,if_neg hc]
 ·right;rw [dec_eq,if_neg h1,if_neg h2,if_neg h3,if_neg h4]
theorem enc_length (c:Int) (hv:vld c = true):1 <= (enc c).length /\ (enc c).length <= 4:=by
 rcases forms c hv with ⟨_,_,e⟩ | ⟨_,_,e⟩ | ⟨_,_,_,e⟩ | ⟨_,_,e⟩ <;> rw [e] <;> simp
theorem enc_ne (c:Int) (r:List UInt8) (hv:vld c = true):enc c ++ r ≠ []:=by
 intro h;have h2:=enc_length c hv;rw [List.append_eq_nil_iff] at h;rw [h.1] at h2;simp at h2
theorem enc_one (c:Int) (hv:vld c = true) (h:(enc c).length = 1):c < 128:=by
 rcases forms c hv with ⟨_,h1,e⟩ | ⟨_,_,e⟩ | ⟨_,_,_,e⟩ | ⟨_,_,e⟩
 ·exact h1
 all_goals rw [e] at h;simp at h
theorem enc_inj {c d:Int} {r t:List UInt8} (hc:vld c = true) (hd:vld d = true) (h:enc c ++ r = enc d ++ t):c = d /\ r = t:=by
 have e1:=dec_enc c r hc;have e2:=dec_enc d t hd;rw [h,e2] at e1;have hcd:c = d:=by
  have:=congrArg Prod.fst e1;have h1:=(vld_iff c).1 hc;have h2:=(vld_iff d).1 hd;simp only at this;omega
 subst hcd;exact ⟨rfl,List.append_cancel_left h⟩
theorem enc_spoilt:enc 65533 = [239,191,189]:=by decide +kernel
theorem vld_spoilt:vld 65533 = true:=(vld_iff _).2 (by omega)
def spo (l:List UInt8):Bool:=(dec l == (65533,1))
theorem spo_false_iff (l:List UInt8) (hl:l ≠ []):spo l = false ↔ ∃ c r,vld c = true /\ l = enc c ++ r:=by
 unfold spo;constructor
 ·intro h
  rcases dec_cases l hl with ⟨c,r,hv,hr,_⟩ | h'
  ·exact ⟨c,r,hv,hr⟩
  ·rw [h'] at h;simp at h
 ·rintro ⟨c,r,hv,rfl⟩
  rw [dec_enc c r hv,beq_eq_false_iff_ne];intro h;have h1:=congrArg Prod.fst h;have h2:=congrArg Prod.snd h;simp only at h1 h2;have:=enc_one c hv h2;omega
def mrk (l:List UInt8):Int × Nat × Bool:=(((dec l).1:Int),(dec l).2,!spo l)
theorem mark_enc (c:Int) (r:List UInt8) (hv:vld c = true):mrk (enc c ++ r) = (c,(enc c).length,true):=by
 have hs:spo (enc c ++ r) = false:=(spo_false_iff _ (enc_ne c r hv)).2 ⟨c,r,hv,rfl⟩;unfold mrk;rw [dec_enc c r hv,hs];have:=(vld_iff c).1 hv;simp;omega
theorem mrk_enc' {c:Int} {l r:List UInt8} (hv:vld c = true) (h:l = enc c ++ r):mrk l = (c,(enc c).length,true):=by rw [h];exact mark_enc c r hv
theorem mark_spo (l:List UInt8) (h:spo l = true):mrk l = (65533,1,false):=by
 unfold mrk;rw [h];unfold spo at h;rw [beq_iff_eq.1 h];rfl
theorem mark_cases (l:List UInt8) (hl:l ≠ []) :
  (∃ c r,vld c = true /\ l = enc c ++ r /\ mrk l = (c,(enc c).length,true)) \/ (spo l = true /\ mrk l = (65533,1,false)):=by
 by_cases h:spo l = true
 ·exact .inr ⟨h,mark_spo l h⟩
 ·obtain ⟨c,r,hv,rfl⟩:=(spo_false_iff l hl).1 (by simpa using h)
  exact .inl ⟨c,r,hv,rfl,mark_enc c r hv⟩
theorem mark_n (l:List UInt8) (hl:l ≠ []):1 <= (mrk l).2.1 /\ (mrk l).2.1 <= l.length /\ (mrk l).2.1 <= 4:=by
 rcases mark_cases l hl with ⟨c,r,hv,rfl,hm⟩ | ⟨_,hm⟩
 ·rw [hm];have:=enc_length c hv;simp;omega
 ·rw [hm];have:=List.length_pos_iff.2 hl;simp;omega
theorem dec_n (l:List UInt8) (hl:l ≠ []):1 <= (dec l).2 /\ (dec l).2 <= l.length /\ (dec l).2 <= 4:=mark_n l hl
theorem dec_c (l:List UInt8) (hl:l ≠ []):vld ((dec l).1:Int) = true:=by
 rcases dec_cases l hl with ⟨c,r,hv,hr,hd⟩ | hd
 ·rw [hd];have:=(vld_iff c).1 hv;simp only;rw [show ((c.toNat:Nat):Int) = c from by omega];exact hv
 ·rw [hd];exact vld_spoilt
def fst3 (l:List UInt8):Int × Int × Bool:=if l = [] then (0,0,false) else ((mrk l).1,((mrk l).2.1:Int),(mrk l).2.2)
def marksF:Nat -> List UInt8 -> List (Int × Nat × Bool)
 | 0,_=>[]
 | _ + 1,[]=>[]
 | f + 1,a :: r=>mrk (a :: r) :: marksF f ((a :: r).drop (mrk (a :: r)).2.1)
def marks (l:List UInt8):List (Int × Nat × Bool):=marksF l.length l
theorem marksF_more (f g:Nat) (l:List UInt8) (hf:l.length <= f) (hg:l.length <= g):marksF f l = marksF g l:=by
 induction f generalizing g l with
 | zero =>
  have:l = []:=List.eq_nil_of_length_eq_zero (by omega);subst this;cases g <;> rfl
 | succ f ih =>
  cases l with
  | nil=>cases g <;> rfl
  | cons a r =>
   cases g with
   | zero=>simp at hg
   | succ g =>
    have:=mark_n (a :: r) (by simp);simp only [marksF];rw [ih g _ (by simp at *;omega) (by simp at *;omega)]
theorem marks_nil:marks [] = []:=rfl
theorem marks_cons (l:List UInt8) (hl:l ≠ []):marks l = mrk l :: marks (l.drop (mrk l).2.1):=by
 cases l with
 | nil=>exact absurd rfl hl
 | cons a r =>
  have:=mark_n (a :: r) (by simp);show marksF (r.length + 1) (a :: r) = _;simp only [marksF];unfold marks;rw [marksF_more _ ((a :: r).drop (mrk (a :: r)).2.1).length _ (by simp at *;omega) (Nat.le_refl _)]
theorem marks_enc (c:Int) (r:List UInt8) (hv:vld c = true):marks (enc c ++ r) = (c,(enc c).length,true) :: marks r:=by
 have hne:=enc_ne c r hv;rw [marks_cons _ hne,mark_enc c r hv];simp
def allL (l:List UInt8):List Int:=(marks l).map (·.1)
def okL (l:List UInt8):Bool:=(marks l).all (·.2.2)
def startsF:Nat -> List (Int × Nat × Bool) -> List Int
 | at',[]=>[(at':Int)]
 | at',m :: r=>(at':Int) :: startsF (at' + m.2.1) r
theorem startsF_length (n:Nat) (l:List (Int × Nat × Bool)):(startsF n l).length = l.length + 1:=by
 induction l generalizing n with
 | nil=>rfl
 | cons m r ih=>simp [startsF,ih]
def startsL (l:List UInt8):List Int:=startsF 0 (marks l)
theorem marks_length (l:List UInt8):(marks l).length <= l.length:=by
 have:∀ n,∀ l:List UInt8,l.length <= n -> (marks l).length <= l.length:=by
  intro n;induction n with
  | zero=>intro l h;have:l = []:=List.eq_nil_of_length_eq_zero (by omega);subst this;simp [marks_nil]
  | succ n ih =>
   intro l h;by_cases hl:l = []
   ·subst hl;simp [marks_nil]
   ·have hm:=mark_n l hl
    rw [marks_cons l hl];have:=ih (l.drop (mrk l).2.1) (by simp;omega);simp at *;omega
 exact this l.length l (Nat.le_refl _)
theorem marks_ind {p:List UInt8 -> Prop} (h0:p []) (h1:∀ l,l ≠ [] -> p (l.drop (mrk l).2.1) -> p l) (l:List UInt8):p l:=by
 have:∀ n,∀ l:List UInt8,l.length <= n -> p l:=by
  intro n;induction n with
  | zero=>intro l h;have:l = []:=List.eq_nil_of_length_eq_zero (by omega);subst this;exact h0
  | succ n ih =>
   intro l h;by_cases hl:l = []
   ·subst hl;exact h0
   ·have hm:=mark_n l hl
    exact h1 l hl (ih _ (by simp;omega))
 exact this l.length l (Nat.le_refl _)
def one (c:Int):List UInt8:=if vld c = true then enc c else enc 65533
def joinL (l:List Int):List UInt8:=l.flatMap one
def around (n m:Int):Int:=(if n < 0 then -(n + 1) else n) % m
def good (n:Int):Int:=if vld (around n 1114112) = true then around n 1114112 else around n 1114112 + 2048
theorem around_bd (n m:Int) (h:0 < m):0 <= around n m /\ around n m < m:=by
 unfold around;exact ⟨Int.emod_nonneg _ (by omega),Int.emod_lt_of_pos _ h⟩
theorem good_vld (n:Int):vld (good n) = true:=by
 have hb:=around_bd n 1114112 (by omega);unfold good;split
 ·assumption
 ·rename_i h
  have h':vld (around n 1114112) = false:=by simpa using h
  rw [vld_false] at h';rw [vld_iff];omega
def encB (c:Int):ByteArray:=if vld c = true then Utf8.encode c else ⟨#[]⟩
theorem encB_list (c:Int) (hv:vld c = true):(encB c).data.toList = enc c:=by unfold encB;rw [if_pos hv];rfl
theorem ba_ext {a b:ByteArray} (h:a.data.toList = b.data.toList):a = b:=by
 cases a;cases b;congr;exact Array.ext' h
theorem hasPrefix_iff (l p:List UInt8):Lib.hasPrefix l p = true ↔ ∃ r,l = p ++ r:=by
 unfold Lib.hasPrefix;rw [List.isPrefixOf_iff_prefix];constructor
 ·rintro ⟨r,hr⟩;exact ⟨r,hr.symm⟩
 ·rintro ⟨r,hr⟩;exact ⟨r,hr.symm⟩
theorem spo_code (l:List UInt8) (hl:l ≠ []):((((dec l).1:Nat):Int) == 65533 && !Lib.hasPrefix l (enc 65533)) = spo l:=by
 rcases mark_cases l hl with ⟨c,r,hv,rfl,hm⟩ | ⟨hs,hm⟩
 ·have hs:spo (enc c ++ r) = false:=(spo_false_iff _ hl).2 ⟨c,r,hv,rfl⟩
  rw [hs,dec_enc c r hv];have hb:=(vld_iff c).1 hv;by_cases hc:c = 65533
  ·subst hc
   have:Lib.hasPrefix (enc 65533 ++ r) (enc 65533) = true:=(hasPrefix_iff _ _).2 ⟨r,rfl⟩;rw [this];rfl
  ·have:((((c.toNat,(enc c).length).1:Nat):Int) == 65533) = false:=by
    rw [beq_eq_false_iff_ne];simp only;omega
   rw [this];rfl
 ·rw [hs]
  have hd:dec l = (65533,1):=by unfold spo at hs;exact beq_iff_eq.1 hs
  have hp:Lib.hasPrefix l (enc 65533) = false:=by
   cases h:Lib.hasPrefix l (enc 65533)
   ·rfl
   ·obtain ⟨r,hr⟩:=(hasPrefix_iff _ _).1 h
    rw [hr,dec_enc 65533 r vld_spoilt,enc_spoilt] at hd;simp at hd
  rw [hd,hp];rfl
theorem decode_at (s:ByteArray) (pos:Nat):Utf8.decode s pos = ((dec (s.data.toList.drop pos)).1,(mrk (s.data.toList.drop pos)).2.1):=by
 rw [decode_dec];rfl
theorem drop_ne {s:ByteArray} {pos:Nat} (h:pos < s.size):s.data.toList.drop pos ≠ []:=by
 intro e;have:=congrArg List.length e;have hs:s.size = s.data.toList.length:=by simp
 simp only [List.length_drop,List.length_nil] at this;omega
theorem size_list (s:ByteArray):s.data.toList.length = s.size:=by simp
theorem marks_at (s:ByteArray) (pos:Nat) (h:pos < s.size) :
  marks (s.data.toList.drop pos) = mrk (s.data.toList.drop pos) :: marks (s.data.toList.drop (pos + (mrk (s.data.toList.drop pos)).2.1)):=by
 rw [marks_cons _ (drop_ne h),List.drop_drop]
theorem mark_at_n (s:ByteArray) (pos:Nat) (h:pos < s.size):1 <= (mrk (s.data.toList.drop pos)).2.1 /\ pos + (mrk (s.data.toList.drop pos)).2.1 <= s.size:=by
 have:=mark_n _ (drop_ne h);have hl:=size_list s;simp only [List.length_drop] at this;omega
theorem marks_end (s:ByteArray) (pos:Nat) (h:¬ pos < s.size):marks (s.data.toList.drop pos) = []:=by
 have hl:=size_list s;rw [List.drop_of_length_le (by omega)];rfl
theorem enc_cont (c:Int) (hv:vld c = true) (i:Nat) (h1:1 <= i) (h2:i < (enc c).length):byt (enc c) i / 64 = 2:=by
 rcases forms c hv with ⟨_,_,e⟩ | ⟨h3,h4,e⟩ | ⟨h3,h4,_,e⟩ | ⟨h3,h4,e⟩
 ·rw [e] at h2;simp at h2;omega
 ·rw [e] at h2 |-
  match i,h1,h2 with
  | 1,_,_=>show (UInt8.ofNat (128 + c.toNat % 64)).toNat / 64 = 2;rw [u8_nat _ (by omega)];omega
  | i + 2,_,h2=>simp at h2;omega
 ·rw [e] at h2 |-
  match i,h1,h2 with
  | 1,_,_=>show (UInt8.ofNat (128 + c.toNat / 64 % 64)).toNat / 64 = 2;rw [u8_nat _ (by omega)];omega
  | 2,_,_=>show (UInt8.ofNat (128 + c.toNat % 64)).toNat / 64 = 2;rw [u8_nat _ (by omega)];omega
  | i + 3,_,h2=>simp at h2;omega
 ·rw [e] at h2 |-
  match i,h1,h2 with
  | 1,_,_=>show (UInt8.ofNat (128 + c.toNat / 4096 % 64)).toNat / 64 = 2;rw [u8_nat _ (by omega)];omega
  | 2,_,_=>show (UInt8.ofNat (128 + c.toNat / 64 % 64)).toNat / 64 = 2;rw [u8_nat _ (by omega)];omega
  | 3,_,_=>show (UInt8.ofNat (128 + c.toNat % 64)).toNat / 64 = 2;rw [u8_nat _ (by omega)];omega
  | i + 4,_,h2=>simp at h2;omega
theorem enc_head (c:Int) (hv:vld c = true):byt (enc c) 0 / 64 ≠ 2:=by
 rcases forms c hv with ⟨_,_,e⟩ | ⟨h3,h4,e⟩ | ⟨h3,h4,_,e⟩ | ⟨h3,h4,e⟩
 ·rw [e];show (UInt8.ofNat c.toNat).toNat / 64 ≠ 2;rw [u8_nat _ (by omega)];omega
 ·rw [e];show (UInt8.ofNat (192 + c.toNat / 64)).toNat / 64 ≠ 2;rw [u8_nat _ (by omega)];omega
 ·rw [e];show (UInt8.ofNat (224 + c.toNat / 4096)).toNat / 64 ≠ 2;rw [u8_nat _ (by omega)];omega
 ·rw [e];show (UInt8.ofNat (240 + c.toNat / 262144)).toNat / 64 ≠ 2;rw [u8_nat _ (by omega)];omega
theorem mark_front (l m:List UInt8) (hl:l ≠ []) (hm:m = [] \/ byt m 0 / 64 ≠ 2):mrk (l ++ m) = mrk l:=by
 rcases mark_cases l hl with ⟨c,r,hv,rfl,hk⟩ | ⟨hs,hk⟩
 ·rw [hk,List.append_assoc,mark_enc _ _ hv]
 ·rw [hk]
  refine mark_spo _ ?_;cases h:spo (l ++ m)
  ·exfalso
   obtain ⟨c,r,hv,hr⟩:=(spo_false_iff _ (by simp [hl])).1 h;have hsl:¬ spo l = false:=by rw [hs];simp
   by_cases hlen:(enc c).length <= l.length
   ·apply hsl
    rw [spo_false_iff l hl];refine ⟨c,l.drop (enc c).length,hv,?_⟩;have h2:enc c = l.take (enc c).length:=by
     have:=congrArg (List.take (enc c).length) hr;rw [List.take_left,List.take_append_of_le_length hlen] at this;exact this.symm
    conv=>lhs;rw [<- List.take_append_drop (enc c).length l]
    rw [<- h2]
   ·have hne:m ≠ []:=by
     intro e;rw [e,List.append_nil] at hr;have:=congrArg List.length hr;simp at this;omega
    have hb:byt (l ++ m) l.length = byt m 0:=by
     unfold byt;simp only [List.getD_eq_getElem?_getD];rw [List.getElem?_append_right (Nat.le_refl _),Nat.sub_self]
    have hb2:byt (enc c ++ r) l.length = byt (enc c) l.length:=by
     unfold byt;simp only [List.getD_eq_getElem?_getD];rw [List.getElem?_append_left (by omega)]
    have hlp:1 <= l.length:=List.length_pos_iff.2 hl;have:=enc_cont c hv l.length hlp (by omega);rw [hr,hb2] at hb;rw [hb] at this;rcases hm with hm | hm
    ·exact hne hm
    ·exact hm this
  ·rfl
theorem marks_append (l m:List UInt8) (hm:m = [] \/ byt m 0 / 64 ≠ 2):marks (l ++ m) = marks l ++ marks m:=by
 refine marks_ind (p:=fun l=>marks (l ++ m) = marks l ++ marks m) (by simp [marks_nil]) ?_ l;intro l hl ih;have hn:=mark_n l hl;rw [marks_cons (l ++ m) (by simp [hl]),mark_front l m hl hm,marks_cons l hl,List.drop_append_of_le_length hn.2.1,ih];rfl
def lst3 (l:List UInt8):Int × Int × Bool:=match (marks l).getLast? with
 | none=>(0,0,false)
 | some m=>(m.1,(m.2.1:Int),m.2.2)
theorem lst3_nil:lst3 [] = (0,0,false):=rfl
theorem lst3_enc (l:List UInt8) (c:Int) (hv:vld c = true):lst3 (l ++ enc c) = (c,((enc c).length:Int),true):=by
 unfold lst3;have h:=marks_enc c [] hv;rw [List.append_nil,marks_nil] at h;rw [marks_append _ _ (.inr (enc_head c hv)),h,List.getLast?_append];rfl
theorem last_cases (l:List UInt8) (hl:l ≠ []):(∃ a c,vld c = true /\ l = a ++ enc c) \/ lst3 l = (65533,1,false):=by
 have key:∀ l:List UInt8,l ≠ [] -> (∃ a c,vld c = true /\ l = a ++ enc c) \/ (marks l).getLast? = some (65533,1,false):=by
  intro l;refine marks_ind (p:=fun l=>l ≠ [] -> (∃ a c,vld c = true /\ l = a ++ enc c) \/ (marks l).getLast? = some (65533,1,false)) (by simp) ?_ l;intro l hl ih _;rw [marks_cons l hl];by_cases hd:l.drop (mrk l).2.1 = []
  ·rw [hd,marks_nil]
   rcases mark_cases l hl with ⟨c,r,hv,he,hk⟩ | ⟨hs,hk⟩
   ·left
    rw [hk] at hd;simp only at hd;rw [he,List.drop_left] at hd;exact ⟨[],c,hv,by rw [he,hd];simp⟩
   ·right;rw [hk];rfl
  ·rcases ih hd with ⟨a,c,hv,he⟩ | he
   ·left
    refine ⟨l.take (mrk l).2.1 ++ a,c,hv,?_⟩;rw [List.append_assoc,<- he,List.take_append_drop]
   ·right
    rw [List.getLast?_cons,he];rfl
 rcases key l hl with h | h
 ·exact .inl h
 ·right;unfold lst3;rw [h];rfl
theorem fst3_whole (l:List UInt8) (n:Nat) (hn:l.length = n) (h1:1 <= n) (h:(fst3 l).2.2 = true) (h2:(fst3 l).2.1 = (n:Int)) :
  ∃ c,vld c = true /\ l = enc c /\ (fst3 l).1 = c:=by
 have hl:l ≠ []:=by intro e;rw [e] at hn;simp at hn;omega
 unfold fst3 at h h2 |-;rw [if_neg hl] at h h2 |-;rcases mark_cases l hl with ⟨c,r,hv,he,hk⟩ | ⟨hs,hk⟩
 ·rw [hk] at h2 |-
  simp only at h2;refine ⟨c,hv,?_,rfl⟩;have hr:r = []:=by
   apply List.eq_nil_of_length_eq_zero;have:=congrArg List.length he;simp at this;omega
  rw [he,hr];simp
 ·rw [hk] at h;simp at h
theorem fst3_enc (c:Int) (hv:vld c = true):fst3 (enc c) = (c,((enc c).length:Int),true):=by
 have hne:enc c ≠ []:=by have:=enc_ne c [] hv;simpa using this
 unfold fst3;have h:=mark_enc c [] hv;rw [List.append_nil] at h;rw [if_neg hne,h]
def noLonger (l:List UInt8) (k:Nat):Prop:=∀ c a,vld c = true -> l = a ++ enc c -> (enc c).length <= k
theorem noLonger_start (l:List UInt8):noLonger l (min 4 l.length):=by
 intro c a hv h;have h1:=enc_length c hv;have h2:=congrArg List.length h;simp at h2;omega
theorem noLonger_zero (l:List UInt8) (hl:l ≠ []) (h:noLonger l 0):lst3 l = (65533,1,false):=by
 rcases last_cases l hl with ⟨a,c,hv,e⟩ | e
 ·have:=h c a hv e
  have:=enc_length c hv;omega
 ·exact e
theorem drop_tail (l a:List UInt8) (c:Int) (h:l = a ++ enc c):l.drop (l.length - (enc c).length) = enc c:=by
 rw [h,List.length_append,Nat.add_sub_cancel,List.drop_left]
theorem noLonger_step (l:List UInt8) (k:Nat) (hk:k + 1 <= l.length) (h:noLonger l (k + 1))
  (hx:¬ ((fst3 (l.drop (l.length - (k + 1)))).2.2 = true /\ (fst3 (l.drop (l.length - (k + 1)))).2.1 = ((k + 1:Nat):Int))):noLonger l k:=by
 intro c a hv e;have h1:=h c a hv e;rcases Nat.lt_or_ge (enc c).length (k + 1) with h2 | h2
 ·omega
 ·exfalso
  apply hx;have h3:(enc c).length = k + 1:=by omega
  rw [<- h3,drop_tail l a c e,fst3_enc c hv];exact ⟨rfl,rfl⟩
theorem last_found (l:List UInt8) (k:Nat) (hk:k + 1 <= l.length)
  (h1:(fst3 (l.drop (l.length - (k + 1)))).2.2 = true) (h2:(fst3 (l.drop (l.length - (k + 1)))).2.1 = ((k + 1:Nat):Int)) :
  lst3 l = ((fst3 (l.drop (l.length - (k + 1)))).1,((k + 1:Nat):Int),true):=by
 have hlen:(l.drop (l.length - (k + 1))).length = k + 1:=by simp;omega
 obtain ⟨c,hv,e,hc⟩:=fst3_whole _ (k + 1) hlen (by omega) h1 h2;rw [hc];have e2:l = l.take (l.length - (k + 1)) ++ enc c:=by rw [<- e,List.take_append_drop]
 rw [e] at hlen;conv=>lhs;rw [e2]
 rw [lst3_enc _ c hv,hlen]
def val:List UInt8 -> Int
 | [a]=>(a.toNat:Int)
 | [a,b]=>((a.toNat:Int) - 192) * 64 + (b.toNat:Int) - 128
 | [a,b,c]=>(((a.toNat:Int) - 224) * 64 + (b.toNat:Int) - 128) * 64 + (c.toNat:Int) - 128
 | [a,b,c,d]=>((((a.toNat:Int) - 240) * 64 + (b.toNat:Int) - 128) * 64 + (c.toNat:Int) - 128) * 64 + (d.toNat:Int) - 128
 | _=>0
theorem val_enc (c:Int) (hv:vld c = true):val (enc c) = c:=by
 rcases forms c hv with ⟨h0,h1,e⟩ | ⟨h0,h1,e⟩ | ⟨h0,h1,h2,e⟩ | ⟨h0,h1,e⟩
 ·rw [e,val,u8_nat _ (by omega)];omega
 ·rw [e,val,u8_nat _ (by omega),u8_nat _ (by omega)];omega
 ·rw [e,val,u8_nat _ (by omega),u8_nat _ (by omega),u8_nat _ (by omega)];omega
 ·rw [e,val,u8_nat _ (by omega),u8_nat _ (by omega),u8_nat _ (by omega),u8_nat _ (by omega)];omega
theorem val_bd (l:List UInt8):-9223372036854775808 <= val l /\ val l <= 9223372036854775807:=by
 unfold val;split
 ·rename_i a;have:=a.toNat_lt;omega
 ·rename_i a b;have:=a.toNat_lt;have:=b.toNat_lt;omega
 ·rename_i a b c;have:=a.toNat_lt;have:=b.toNat_lt;have:=c.toNat_lt;omega
 ·rename_i a b c d;have:=a.toNat_lt;have:=b.toNat_lt;have:=c.toNat_lt;have:=d.toNat_lt;omega
 ·omega
def noFront (l:List UInt8) (k:Nat):Prop:=∀ c r,vld c = true -> l = enc c ++ r -> k <= (enc c).length
theorem noFront_start (l:List UInt8):noFront l 1:=fun c _ hv _=>(enc_length c hv).1
theorem encB_take {l:List UInt8} {k:Nat} {c:Int} (hk:1 <= k) (hl:k <= l.length) (h:(encB c).data.toList = l.take k):vld c = true /\ enc c = l.take k:=by
 cases hv:vld c
 ·exfalso
  unfold encB at h;rw [if_neg (by simp [hv])] at h;have:=congrArg List.length h;simp at this;omega
 ·rw [encB_list c hv] at h;exact ⟨rfl,h⟩
theorem front_found (l:List UInt8) (k:Nat) (hk:1 <= k) (hl:k <= l.length) (h:(encB (val (l.take k))).data.toList = l.take k) :
  fst3 l = (val (l.take k),(k:Int),true):=by
 obtain ⟨hv,he⟩:=encB_take hk hl h;have hne:l ≠ []:=by intro e;rw [e] at hl;simp at hl;omega
 have h2:l = enc (val (l.take k)) ++ l.drop k:=by
  conv=>lhs;rw [<- List.take_append_drop k l]
  rw [he]
 have hlen:(enc (val (l.take k))).length = k:=by rw [he];simp;omega
 have hm:=mrk_enc' hv h2;unfold fst3;rw [if_neg hne,hm,hlen]
theorem noFront_step (l:List UInt8) (k:Nat) (h:noFront l k) (hx:(encB (val (l.take k))).data.toList ≠ l.take k):noFront l (k + 1):=by
 intro c r hv e;have h1:=h c r hv e;rcases Nat.lt_or_ge k (enc c).length with h2 | h2
 ·omega
 ·exfalso
  apply hx;have h3:(enc c).length = k:=by omega
  have h4:l.take k = enc c:=by rw [e,<- h3,List.take_left]
  rw [h4,val_enc c hv,encB_list c hv]
theorem noFront_end (l:List UInt8) (k:Nat) (hl:l ≠ []) (h:noFront l k) (hk:4 < k \/ l.length < k):fst3 l = (65533,1,false):=by
 unfold fst3;rw [if_neg hl];rcases mark_cases l hl with ⟨c,r,hv,e,_⟩ | ⟨_,hm⟩
 ·exfalso
  have h1:=h c r hv e;have h2:=enc_length c hv;have h3:=congrArg List.length e;simp at h3;omega
 ·rw [hm];simp
theorem one_length (c:Int):(one c).length <= 4:=by
 unfold one;split
 ·exact (enc_length c (by assumption)).2
 ·rw [enc_spoilt];simp
theorem joinL_length (l:List Int):(joinL l).length <= 4 * l.length:=by
 induction l with
 | nil=>simp [joinL]
 | cons c r ih =>
  have:=one_length c;unfold joinL at *;simp only [List.flatMap_cons,List.length_append,List.length_cons];omega
theorem joinL_take (l:List Int) (k:Nat) (h:k < l.length):joinL (l.take (k + 1)) = joinL (l.take k) ++ one (l.getD k 0):=by
 rw [List.take_succ_eq_append_getElem h];unfold joinL;rw [List.flatMap_append,List.getD_eq_getElem?_getD,List.getElem?_eq_getElem h];simp
theorem one_enc {c:Int} (hv:vld c = true):one c = (encB c).data.toList:=by unfold one;rw [if_pos hv,encB_list c hv]
theorem one_spoilt {c:Int} (hv:vld c = false):one c = (encB 65533).data.toList:=by unfold one;rw [if_neg (by simp [hv]),encB_list _ vld_spoilt]
theorem encB_empty {c:Int} (hv:vld c = false):(encB c).data.toList = []:=by unfold encB;rw [if_neg (by simp [hv])]
theorem encB_some {c:Int} (hv:vld c = true):(encB c).data.toList ≠ []:=by
 rw [encB_list c hv];have:=enc_ne c [] hv;simpa using this
theorem encB_size (c:Int):(encB c).size <= 4:=by
 cases hv:vld c
 ·have:=encB_empty hv
  have h:=size_list (encB c);rw [this] at h;simp at h;omega
 ·have h:=size_list (encB c)
  rw [encB_list c hv] at h;have:=enc_length c hv;omega
theorem allL_vld (l:List UInt8):∀ c ∈ allL l,vld c = true:=by
 refine marks_ind (p:=fun l=>∀ c ∈ allL l,vld c = true) (by simp [allL,marks_nil]) ?_ l;intro l hl ih c hc;unfold allL at hc ih;rw [marks_cons l hl,List.map_cons,List.mem_cons] at hc;rcases hc with rfl | hc
 ·exact dec_c l hl
 ·exact ih c hc
theorem marks_join (xs:List Int) (r:List UInt8) (h:∀ c ∈ xs,vld c = true):marks (joinL xs ++ r) = xs.map (fun c=>(c,(enc c).length,true)) ++ marks r:=by
 induction xs with
 | nil=>simp [joinL]
 | cons c xs ih =>
  have hc:=h c (by simp);have e:joinL (c :: xs) ++ r = enc c ++ (joinL xs ++ r):=by
   unfold joinL;rw [List.flatMap_cons,one,if_pos hc,List.append_assoc]
  rw [e,marks_enc c _ hc,ih (fun d hd=>h d (by simp [hd]))];rfl
theorem marks_join0 (xs:List Int) (h:∀ c ∈ xs,vld c = true):marks (joinL xs) = xs.map (fun c=>(c,(enc c).length,true)):=by
 have:=marks_join xs [] h;rw [List.append_nil,marks_nil,List.append_nil] at this;exact this
theorem allL_join (xs:List Int) (h:∀ c ∈ xs,vld c = true):allL (joinL xs) = xs:=by
 unfold allL;rw [marks_join0 xs h,List.map_map];exact List.map_id' xs
theorem okL_join (xs:List Int) (h:∀ c ∈ xs,vld c = true):okL (joinL xs) = true:=by
 unfold okL;rw [marks_join0 xs h];simp
theorem len_join (xs:List Int) (h:∀ c ∈ xs,vld c = true):(marks (joinL xs)).length = xs.length:=by
 rw [marks_join0 xs h];simp
theorem join_ok (l:List UInt8) (h:okL l = true):joinL (allL l) = l:=by
 revert h
 refine marks_ind (p:=fun l=>okL l = true -> joinL (allL l) = l) (fun _=>rfl) ?_ l;intro l hl ih h;unfold okL at h ih;rw [marks_cons l hl,List.all_cons,Bool.and_eq_true] at h;rcases mark_cases l hl with ⟨c,r,hv,he,hk⟩ | ⟨_,hk⟩
 ·have hd:l.drop (mrk l).2.1 = r:=by rw [hk,he];simp
  have:=ih h.2;rw [hd] at this;unfold joinL allL at this |-;rw [marks_cons l hl,hd,List.map_cons,List.flatMap_cons,this,hk,he];rw [one,if_pos hv]
 ·rw [hk] at h;simp at h
def fix (c:Int):Int:=if vld c = true then c else 65533
theorem fix_vld (c:Int):vld (fix c) = true:=by
 unfold fix;split
 ·assumption
 ·exact vld_spoilt
theorem one_fix (c:Int):one (fix c) = one c:=by
 cases hv:vld c
 ·have h1:fix c = 65533:=by unfold fix;rw [if_neg (by simp [hv])]
  have h2:one c = enc 65533:=by unfold one;rw [if_neg (by simp [hv])]
  rw [h1,h2];unfold one;rw [if_pos vld_spoilt]
 ·unfold fix;rw [if_pos hv]
theorem joinL_fix (xs:List Int):joinL (xs.map fix) = joinL xs:=by
 unfold joinL;induction xs with
 | nil=>rfl
 | cons c xs ih=>rw [List.map_cons,List.flatMap_cons,List.flatMap_cons,ih,one_fix]
theorem okL_joinL (xs:List Int):okL (joinL xs) = true:=by
 rw [<- joinL_fix];refine okL_join _ fun c hc=>?_;obtain ⟨d,_,rfl⟩:=List.mem_map.1 hc;exact fix_vld d
end Um
end Go.Proofs.Ytnehhbobhnmbcaa
