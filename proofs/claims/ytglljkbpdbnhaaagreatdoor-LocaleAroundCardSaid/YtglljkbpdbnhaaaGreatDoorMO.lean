/- What the library's Trim, TrimLeft and Count at one byte, and its TrimLeftFunc, answer here, laid out of their contracts. What the library's Cut and Split at one byte and its Contains of texts answer here; what the program makes of a number's signs. What the program makes of a number's signs. -/
import Derived.Shelf.Strings.Trim
import Derived.Shelf.Strings.Split
import Derived.Shelf.GgClosure.StringsTrimFunc
import Derived.Test.YtglljkbpdbnhaaaGreatDoorProg
import Derived.Test.YtglljkbpdbnhaaaGreatDoorMA
import Derived.Shelf.Strings.Cut
import Derived.Test.YtglljkbpdbnhaaaGreatDoorRows
import Derived.Test.YtglljkbpdbnhaaaGreatDoorMB
import Derived.Test.YtglljkbpdbnhaaaGreatDoorMG
import Derived.Test.YtglljkbpdbnhaaaGreatDoorMBP
import Derived.Test.YtglljkbpdbnhaaaGreatDoorMN
import Derived.Deep.Cut
import Derived.Deep.DeepCutAuto
set_option linter.unusedVariables false
namespace Go.Proofs.YtglljkbpdbnhaaaGreatDoor
open Go.Shelf
namespace Sp
def shelfTrimRen : Go.Shelf.Ren := ⟨fun | 119 => 207 | 120 => 205 | 137 => 206 | 151 => 201 | 152 => 204 | 160 => 172 | 197 => 198 | 217 => 180 | 224 => 182 | 225 => 181 | 227 => 189 | 228 => 200 | 231 => 187 | 232 => 188 | 233 => 190 | 234 => 191 | 235 => 192 | 236 => 193 | 260 => 203 | 266 => 196 | 271 => 202 | n => n, fun | 0 => 0 | 3 => 3 | 4 => 4 | 5 => 5 | 9 => 9 | 21 => 21 | 46 => 217 | 105 => 229 | 116 => 221 | 117 => 222 | 119 => 234 | 124 => 225 | 138 => 236 | 139 => 237 | n => n, fun | 3 => 1 | 4 => 2 | n => n⟩
theorem shelfTrim : Go.Proofs.Lays.n160 Tryz.prog shelfTrimRen := {
  mixed := by kernel_rfl
  f119 := Tryz.func207.trans (congrArg some (by kernel_rfl))
  f120 := Tryz.func205.trans (congrArg some (by kernel_rfl))
  f137 := Tryz.func206.trans (congrArg some (by kernel_rfl))
  f151 := Tryz.func201.trans (congrArg some (by kernel_rfl))
  f152 := Tryz.func204.trans (congrArg some (by kernel_rfl))
  f160 := Tryz.func172.trans (congrArg some (by kernel_rfl))
  f197 := Tryz.func198.trans (congrArg some (by kernel_rfl))
  f217 := Tryz.func180.trans (congrArg some (by kernel_rfl))
  f224 := Tryz.func182.trans (congrArg some (by kernel_rfl))
  f225 := Tryz.func181.trans (congrArg some (by kernel_rfl))
  f227 := Tryz.func189.trans (congrArg some (by kernel_rfl))
  f228 := Tryz.func200.trans (congrArg some (by kernel_rfl))
  f231 := Tryz.func187.trans (congrArg some (by kernel_rfl))
  f232 := Tryz.func188.trans (congrArg some (by kernel_rfl))
  f233 := Tryz.func190.trans (congrArg some (by kernel_rfl))
  f234 := Tryz.func191.trans (congrArg some (by kernel_rfl))
  f235 := Tryz.func192.trans (congrArg some (by kernel_rfl))
  f236 := Tryz.func193.trans (congrArg some (by kernel_rfl))
  f260 := Tryz.func203.trans (congrArg some (by kernel_rfl))
  f266 := Tryz.func196.trans (congrArg some (by kernel_rfl))
  f271 := Tryz.func202.trans (congrArg some (by kernel_rfl))
  t0 := Tryz.underlying0
  a0 := Tryz.isAgg0
  z0 := Tryz.sizeOf0
  v0 := Tryz.zeroValue0
  t3 := Tryz.underlying3
  a3 := Tryz.isAgg3
  z3 := Tryz.sizeOf3
  v3 := Tryz.zeroValue3
  t4 := Tryz.underlying4
  a4 := Tryz.isAgg4
  z4 := Tryz.sizeOf4
  v4 := Tryz.zeroValue4
  t5 := Tryz.underlying5
  a5 := Tryz.isAgg5
  z5 := Tryz.sizeOf5
  v5 := Tryz.zeroValue5
  t9 := Tryz.underlying9
  a9 := Tryz.isAgg9
  z9 := Tryz.sizeOf9
  v9 := Tryz.zeroValue9
  t21 := Tryz.underlying21
  a21 := Tryz.isAgg21
  z21 := Tryz.sizeOf21
  v21 := Tryz.zeroValue21
  t46 := Tryz.underlying217
  a46 := Tryz.isAgg217
  z46 := Tryz.sizeOf217
  v46 := Tryz.zeroValue217
  t105 := Tryz.underlying229
  a105 := Tryz.isAgg229
  z105 := Tryz.sizeOf229
  v105 := Tryz.zeroValue229
  t116 := Tryz.underlying221
  a116 := Tryz.isAgg221
  z116 := Tryz.sizeOf221
  t117 := Tryz.underlying222
  a117 := Tryz.isAgg222
  z117 := Tryz.sizeOf222
  v117 := Tryz.zeroValue222
  t119 := Tryz.underlying234
  a119 := Tryz.isAgg234
  z119 := Tryz.sizeOf234
  t124 := Tryz.underlying225
  a124 := Tryz.isAgg225
  z124 := Tryz.sizeOf225
  v124 := Tryz.zeroValue225
  t138 := Tryz.underlying236
  a138 := Tryz.isAgg236
  z138 := Tryz.sizeOf236
  v138 := Tryz.zeroValue236
  t139 := Tryz.underlying237
  a139 := Tryz.isAgg237
  z139 := Tryz.sizeOf237
  v139 := Tryz.zeroValue237
  g3 := by kernel_rfl
  g4 := by kernel_rfl }
def shelfTrimLeftRen : Go.Shelf.Ren := ⟨fun | 119 => 207 | 137 => 206 | 151 => 201 | 152 => 204 | 161 => 173 | 197 => 198 | 217 => 180 | 224 => 182 | 225 => 181 | 227 => 189 | 228 => 200 | 231 => 187 | 233 => 190 | 235 => 192 | 260 => 203 | 266 => 196 | n => n, fun | 0 => 0 | 3 => 3 | 4 => 4 | 5 => 5 | 9 => 9 | 21 => 21 | 46 => 217 | 105 => 229 | 116 => 221 | 117 => 222 | 119 => 234 | 124 => 225 | 138 => 236 | 139 => 237 | n => n, fun | 3 => 1 | 4 => 2 | n => n⟩
theorem shelfTrimLeft : Go.Proofs.Lays.n161 Tryz.prog shelfTrimLeftRen := {
  mixed := by kernel_rfl
  f119 := Tryz.func207.trans (congrArg some (by kernel_rfl))
  f137 := Tryz.func206.trans (congrArg some (by kernel_rfl))
  f151 := Tryz.func201.trans (congrArg some (by kernel_rfl))
  f152 := Tryz.func204.trans (congrArg some (by kernel_rfl))
  f161 := Tryz.func173.trans (congrArg some (by kernel_rfl))
  f197 := Tryz.func198.trans (congrArg some (by kernel_rfl))
  f217 := Tryz.func180.trans (congrArg some (by kernel_rfl))
  f224 := Tryz.func182.trans (congrArg some (by kernel_rfl))
  f225 := Tryz.func181.trans (congrArg some (by kernel_rfl))
  f227 := Tryz.func189.trans (congrArg some (by kernel_rfl))
  f228 := Tryz.func200.trans (congrArg some (by kernel_rfl))
  f231 := Tryz.func187.trans (congrArg some (by kernel_rfl))
  f233 := Tryz.func190.trans (congrArg some (by kernel_rfl))
  f235 := Tryz.func192.trans (congrArg some (by kernel_rfl))
  f260 := Tryz.func203.trans (congrArg some (by kernel_rfl))
  f266 := Tryz.func196.trans (congrArg some (by kernel_rfl))
  t0 := Tryz.underlying0
  a0 := Tryz.isAgg0
  z0 := Tryz.sizeOf0
  v0 := Tryz.zeroValue0
  t3 := Tryz.underlying3
  a3 := Tryz.isAgg3
  z3 := Tryz.sizeOf3
  v3 := Tryz.zeroValue3
  t4 := Tryz.underlying4
  a4 := Tryz.isAgg4
  z4 := Tryz.sizeOf4
  v4 := Tryz.zeroValue4
  t5 := Tryz.underlying5
  a5 := Tryz.isAgg5
  z5 := Tryz.sizeOf5
  v5 := Tryz.zeroValue5
  t9 := Tryz.underlying9
  a9 := Tryz.isAgg9
  z9 := Tryz.sizeOf9
  v9 := Tryz.zeroValue9
  t21 := Tryz.underlying21
  a21 := Tryz.isAgg21
  z21 := Tryz.sizeOf21
  v21 := Tryz.zeroValue21
  t46 := Tryz.underlying217
  a46 := Tryz.isAgg217
  z46 := Tryz.sizeOf217
  v46 := Tryz.zeroValue217
  t105 := Tryz.underlying229
  a105 := Tryz.isAgg229
  z105 := Tryz.sizeOf229
  v105 := Tryz.zeroValue229
  t116 := Tryz.underlying221
  a116 := Tryz.isAgg221
  z116 := Tryz.sizeOf221
  t117 := Tryz.underlying222
  a117 := Tryz.isAgg222
  z117 := Tryz.sizeOf222
  v117 := Tryz.zeroValue222
  t119 := Tryz.underlying234
  a119 := Tryz.isAgg234
  z119 := Tryz.sizeOf234
  t124 := Tryz.underlying225
  a124 := Tryz.isAgg225
  z124 := Tryz.sizeOf225
  v124 := Tryz.zeroValue225
  t138 := Tryz.underlying236
  a138 := Tryz.isAgg236
  z138 := Tryz.sizeOf236
  v138 := Tryz.zeroValue236
  t139 := Tryz.underlying237
  a139 := Tryz.isAgg237
  z139 := Tryz.sizeOf237
  v139 := Tryz.zeroValue237
  g3 := by kernel_rfl
  g4 := by kernel_rfl }
def shelfCountRen : Go.Shelf.Ren := ⟨fun | 138 => 159 | 143 => 176 | 195 => 174 | 217 => 180 | 218 => 175 | 219 => 168 | 224 => 182 | 225 => 181 | 266 => 196 | 267 => 183 | 314 => 197 | n => n, fun | 0 => 0 | 3 => 3 | 4 => 4 | 5 => 5 | 9 => 9 | 46 => 217 | 51 => 226 | 146 => 227 | n => n, fun | 1 => 0 | n => n⟩
theorem shelfCount : Go.Proofs.Lays.n138 Tryz.prog shelfCountRen := {
  mixed := by kernel_rfl
  f138 := Tryz.func159.trans (congrArg some (by kernel_rfl))
  f143 := Tryz.func176.trans (congrArg some (by kernel_rfl))
  f195 := Tryz.func174.trans (congrArg some (by kernel_rfl))
  f217 := Tryz.func180.trans (congrArg some (by kernel_rfl))
  f218 := Tryz.func175.trans (congrArg some (by kernel_rfl))
  f219 := Tryz.func168.trans (congrArg some (by kernel_rfl))
  f224 := Tryz.func182.trans (congrArg some (by kernel_rfl))
  f225 := Tryz.func181.trans (congrArg some (by kernel_rfl))
  f266 := Tryz.func196.trans (congrArg some (by kernel_rfl))
  f267 := Tryz.func183.trans (congrArg some (by kernel_rfl))
  f314 := Tryz.func197.trans (congrArg some (by kernel_rfl))
  t0 := Tryz.underlying0
  a0 := Tryz.isAgg0
  z0 := Tryz.sizeOf0
  v0 := Tryz.zeroValue0
  t3 := Tryz.underlying3
  a3 := Tryz.isAgg3
  z3 := Tryz.sizeOf3
  v3 := Tryz.zeroValue3
  t4 := Tryz.underlying4
  a4 := Tryz.isAgg4
  z4 := Tryz.sizeOf4
  v4 := Tryz.zeroValue4
  t5 := Tryz.underlying5
  a5 := Tryz.isAgg5
  z5 := Tryz.sizeOf5
  v5 := Tryz.zeroValue5
  t9 := Tryz.underlying9
  a9 := Tryz.isAgg9
  z9 := Tryz.sizeOf9
  v9 := Tryz.zeroValue9
  t46 := Tryz.underlying217
  a46 := Tryz.isAgg217
  z46 := Tryz.sizeOf217
  v46 := Tryz.zeroValue217
  t51 := Tryz.underlying226
  a51 := Tryz.isAgg226
  z51 := Tryz.sizeOf226
  v51 := Tryz.zeroValue226
  t146 := Tryz.underlying227
  a146 := Tryz.isAgg227
  z146 := Tryz.sizeOf227
  v146 := Tryz.zeroValue227
  g1 := by kernel_rfl }
def shelfGenSplitRen : Go.Shelf.Ren := ⟨fun | 138 => 159 | 143 => 176 | 195 => 174 | 197 => 198 | 217 => 180 | 218 => 175 | 219 => 168 | 221 => 170 | 224 => 182 | 225 => 181 | 260 => 203 | 266 => 196 | 267 => 183 | 268 => 185 | 314 => 197 | n => n, fun | 0 => 0 | 3 => 3 | 4 => 4 | 5 => 5 | 9 => 9 | 21 => 21 | 31 => 60 | 46 => 217 | 51 => 226 | 105 => 229 | 119 => 234 | 138 => 236 | 139 => 237 | 146 => 227 | n => n, fun | 1 => 0 | 3 => 1 | 4 => 2 | n => n⟩
theorem shelfGenSplit : Go.Proofs.Lays.n221 Tryz.prog shelfGenSplitRen := {
  mixed := by kernel_rfl
  f138 := Tryz.func159.trans (congrArg some (by kernel_rfl))
  f143 := Tryz.func176.trans (congrArg some (by kernel_rfl))
  f195 := Tryz.func174.trans (congrArg some (by kernel_rfl))
  f197 := Tryz.func198.trans (congrArg some (by kernel_rfl))
  f217 := Tryz.func180.trans (congrArg some (by kernel_rfl))
  f218 := Tryz.func175.trans (congrArg some (by kernel_rfl))
  f219 := Tryz.func168.trans (congrArg some (by kernel_rfl))
  f221 := Tryz.func170.trans (congrArg some (by kernel_rfl))
  f224 := Tryz.func182.trans (congrArg some (by kernel_rfl))
  f225 := Tryz.func181.trans (congrArg some (by kernel_rfl))
  f260 := Tryz.func203.trans (congrArg some (by kernel_rfl))
  f266 := Tryz.func196.trans (congrArg some (by kernel_rfl))
  f267 := Tryz.func183.trans (congrArg some (by kernel_rfl))
  f268 := Tryz.func185.trans (congrArg some (by kernel_rfl))
  f314 := Tryz.func197.trans (congrArg some (by kernel_rfl))
  t0 := Tryz.underlying0
  a0 := Tryz.isAgg0
  z0 := Tryz.sizeOf0
  v0 := Tryz.zeroValue0
  t3 := Tryz.underlying3
  a3 := Tryz.isAgg3
  z3 := Tryz.sizeOf3
  v3 := Tryz.zeroValue3
  t4 := Tryz.underlying4
  a4 := Tryz.isAgg4
  z4 := Tryz.sizeOf4
  v4 := Tryz.zeroValue4
  t5 := Tryz.underlying5
  a5 := Tryz.isAgg5
  z5 := Tryz.sizeOf5
  v5 := Tryz.zeroValue5
  t9 := Tryz.underlying9
  a9 := Tryz.isAgg9
  z9 := Tryz.sizeOf9
  v9 := Tryz.zeroValue9
  t21 := Tryz.underlying21
  a21 := Tryz.isAgg21
  z21 := Tryz.sizeOf21
  v21 := Tryz.zeroValue21
  t31 := Tryz.underlying60
  a31 := Tryz.isAgg60
  z31 := Tryz.sizeOf60
  v31 := Tryz.zeroValue60
  t46 := Tryz.underlying217
  a46 := Tryz.isAgg217
  z46 := Tryz.sizeOf217
  v46 := Tryz.zeroValue217
  t51 := Tryz.underlying226
  a51 := Tryz.isAgg226
  z51 := Tryz.sizeOf226
  v51 := Tryz.zeroValue226
  t105 := Tryz.underlying229
  a105 := Tryz.isAgg229
  z105 := Tryz.sizeOf229
  v105 := Tryz.zeroValue229
  t119 := Tryz.underlying234
  a119 := Tryz.isAgg234
  z119 := Tryz.sizeOf234
  t138 := Tryz.underlying236
  a138 := Tryz.isAgg236
  z138 := Tryz.sizeOf236
  v138 := Tryz.zeroValue236
  t139 := Tryz.underlying237
  a139 := Tryz.isAgg237
  z139 := Tryz.sizeOf237
  v139 := Tryz.zeroValue237
  t146 := Tryz.underlying227
  a146 := Tryz.isAgg227
  z146 := Tryz.sizeOf227
  v146 := Tryz.zeroValue227
  g1 := by kernel_rfl
  g3 := by kernel_rfl
  g4 := by kernel_rfl }

open Go.RowKit Go.Lib in
theorem trim_any (s : ByteArray) (c : UInt8) (hc : c.toNat < 128) (w : World) (hs : s.size ≤ 9223372036854775807) :
    Calls Tryz.prog 172 #[.string s, .string ⟨#[c]⟩] w fun e w' => e = .returned (.string ⟨(Lib.trimB s.data.toList c).toArray⟩) ∧ Q w w' := by
  refine (Any.strings_Trim_one shelfTrim s c hc w hs).mono ?_
  rintro e w' ⟨rfl, h⟩
  refine ⟨rfl, ?_⟩
  rcases h with rfl | rfl
  · exact Q.refl _
  · exact (Q.refl _).drew
open Go.RowKit Go.Lib in
theorem trimLeft_any (s : ByteArray) (c : UInt8) (hc : c.toNat < 128) (w : World) :
    Calls Tryz.prog 173 #[.string s, .string ⟨#[c]⟩] w fun e w' => e = .returned (.string ⟨(Lib.trimLeftB s.data.toList c).toArray⟩) ∧ w = w' :=
  (Any.strings_TrimLeft_one shelfTrimLeft s c hc w).mono fun e w' h => ⟨h.1, h.2.symm⟩
open Go.RowKit Go.Lib in
theorem count_any (s : ByteArray) (c : UInt8) (w : World) :
    Calls Tryz.prog 159 #[.string s, .string ⟨#[c]⟩] w fun e w' => e = .returned (.int .i64 (Lib.countByte s.data.toList c)) ∧ w = w' :=
  (Any.strings_Count_one shelfCount s c w).mono fun e w' h => ⟨h.1, h.2.symm⟩
end Sp
end Go.Proofs.YtglljkbpdbnhaaaGreatDoor

set_option linter.unusedVariables false
set_option linter.unusedSimpArgs false
namespace Go.Proofs.YtglljkbpdbnhaaaGreatDoor
open Go.Shelf
namespace Sp
def shelfIndexRen : Go.Shelf.Ren := ⟨fun | 143 => 176 | 217 => 180 | 219 => 168 | 224 => 182 | 225 => 181 | 266 => 196 | 267 => 183 | 314 => 197 | n => n, fun | 3 => 3 | 4 => 4 | 5 => 5 | 9 => 9 | 46 => 217 | 51 => 226 | 146 => 227 | n => n, fun | 1 => 0 | n => n⟩
theorem shelfIndex : Go.Proofs.Lays.n143 Tryz.prog shelfIndexRen := {
  mixed := by kernel_rfl
  f143 := Tryz.func176.trans (congrArg some (by kernel_rfl))
  f217 := Tryz.func180.trans (congrArg some (by kernel_rfl))
  f219 := Tryz.func168.trans (congrArg some (by kernel_rfl))
  f224 := Tryz.func182.trans (congrArg some (by kernel_rfl))
  f225 := Tryz.func181.trans (congrArg some (by kernel_rfl))
  f266 := Tryz.func196.trans (congrArg some (by kernel_rfl))
  f267 := Tryz.func183.trans (congrArg some (by kernel_rfl))
  f314 := Tryz.func197.trans (congrArg some (by kernel_rfl))
  t3 := Tryz.underlying3
  a3 := Tryz.isAgg3
  z3 := Tryz.sizeOf3
  v3 := Tryz.zeroValue3
  t4 := Tryz.underlying4
  a4 := Tryz.isAgg4
  z4 := Tryz.sizeOf4
  v4 := Tryz.zeroValue4
  t5 := Tryz.underlying5
  a5 := Tryz.isAgg5
  z5 := Tryz.sizeOf5
  v5 := Tryz.zeroValue5
  t9 := Tryz.underlying9
  a9 := Tryz.isAgg9
  z9 := Tryz.sizeOf9
  v9 := Tryz.zeroValue9
  t46 := Tryz.underlying217
  a46 := Tryz.isAgg217
  z46 := Tryz.sizeOf217
  v46 := Tryz.zeroValue217
  t51 := Tryz.underlying226
  a51 := Tryz.isAgg226
  z51 := Tryz.sizeOf226
  v51 := Tryz.zeroValue226
  t146 := Tryz.underlying227
  a146 := Tryz.isAgg227
  z146 := Tryz.sizeOf227
  v146 := Tryz.zeroValue227
  g1 := by kernel_rfl }
def shelfIndexLRen : Go.Shelf.Ren := ⟨fun | 217 => 180 | 219 => 168 | 224 => 182 | 225 => 181 | 266 => 196 | 267 => 183 | 314 => 197 | n => n, fun | 3 => 3 | 4 => 4 | 5 => 5 | 9 => 9 | 46 => 217 | 51 => 226 | 146 => 227 | n => n, fun | 1 => 0 | n => n⟩
theorem shelfIndexL : Go.Proofs.Lays.n219 Tryz.prog shelfIndexLRen := {
  mixed := by kernel_rfl
  f217 := Tryz.func180.trans (congrArg some (by kernel_rfl))
  f219 := Tryz.func168.trans (congrArg some (by kernel_rfl))
  f224 := Tryz.func182.trans (congrArg some (by kernel_rfl))
  f225 := Tryz.func181.trans (congrArg some (by kernel_rfl))
  f266 := Tryz.func196.trans (congrArg some (by kernel_rfl))
  f267 := Tryz.func183.trans (congrArg some (by kernel_rfl))
  f314 := Tryz.func197.trans (congrArg some (by kernel_rfl))
  t3 := Tryz.underlying3
  a3 := Tryz.isAgg3
  z3 := Tryz.sizeOf3
  v3 := Tryz.zeroValue3
  t4 := Tryz.underlying4
  a4 := Tryz.isAgg4
  z4 := Tryz.sizeOf4
  v4 := Tryz.zeroValue4
  t5 := Tryz.underlying5
  a5 := Tryz.isAgg5
  z5 := Tryz.sizeOf5
  v5 := Tryz.zeroValue5
  t9 := Tryz.underlying9
  a9 := Tryz.isAgg9
  z9 := Tryz.sizeOf9
  v9 := Tryz.zeroValue9
  t46 := Tryz.underlying217
  a46 := Tryz.isAgg217
  z46 := Tryz.sizeOf217
  v46 := Tryz.zeroValue217
  t51 := Tryz.underlying226
  a51 := Tryz.isAgg226
  z51 := Tryz.sizeOf226
  v51 := Tryz.zeroValue226
  t146 := Tryz.underlying227
  a146 := Tryz.isAgg227
  z146 := Tryz.sizeOf227
  v146 := Tryz.zeroValue227
  g1 := by kernel_rfl }

open Go.RowKit Go.Lib in
theorem index_any (s : ByteArray) (c : UInt8) (w : World) : Calls Tryz.prog 176 #[.string s, .string ⟨#[c]⟩] w fun e w' => e = .returned (.int .i64 (Lib.indexByte s.data.toList c)) ∧ w' = w := Any.strings_Index_one shelfIndex s c w
open Go.RowKit Go.Lib in
theorem indexL_any (s : ByteArray) (c : UInt8) (w : World) : Calls Tryz.prog 168 #[.string s, .string ⟨#[c]⟩] w fun e w' => e = .returned (.int .i64 (Lib.indexByte s.data.toList c)) ∧ w' = w := Any.stringslite_Index_one shelfIndexL s c w

open Go.RowKit in
set_option maxHeartbeats 1000000 in
theorem cutL_any (s : ByteArray) (c : UInt8) (w : World) (hs : s.size ≤ 1000000) :
    Calls Tryz.prog 152 #[.string s, .string ⟨#[c]⟩] w fun e w' => e = .returned (.tuple #[.string ⟨(Lib.cut s.data.toList [c]).1.toArray⟩, .string ⟨(Lib.cut s.data.toList [c]).2.1.toArray⟩, .bool (Lib.cut s.data.toList [c]).2.2]) ∧ Q w w' := by
  have hI := fun w => indexL_any s c w
  have e0 : Lib.indexB s ⟨#[c]⟩ = Lib.indexByte s.data.toList c := Lib.index_one _ _
  rw [← e0] at hI
  rcases Lib.indexB_cases s ⟨#[c]⟩ with hix | ⟨i, hix, hroom⟩
  · obtain ⟨e1, e2, e3⟩ := Lib.cutB_miss s ⟨#[c]⟩ hix
    have e1 : (⟨(Lib.cut s.data.toList [c]).1.toArray⟩ : ByteArray) = s := e1
    have e2 : (⟨(Lib.cut s.data.toList [c]).2.1.toArray⟩ : ByteArray) = ByteArray.empty := e2
    have e3 : (Lib.cut s.data.toList [c]).2.2 = false := e3
    rw [hix] at hI
    have HI := Lib.hid hI
    have HE := Lib.hid (And.intro e1 (And.intro e2 e3))
    clear hI e0 hix e1 e2 e3
    go_enter Tryz.func152, Tryz.ntmps152
    go_wp2_with fail
    refine (HI.out _).mono ?_
    rintro e w1 ⟨rfl, rfl⟩
    go_wp2_with fail
    go_ret3
    rw [HE.out.1, HE.out.2.1, HE.out.2.2]
    exact ⟨rfl, Q.refl _⟩
  · obtain ⟨e1, e2, e3⟩ := Lib.cutB_hit s ⟨#[c]⟩ i hix
    rw [hix] at hI
    have hroom : i + 1 ≤ s.size := hroom
    have e1 : (⟨(Lib.cut s.data.toList [c]).1.toArray⟩ : ByteArray) = s.extract 0 i := e1
    have e2 : (⟨(Lib.cut s.data.toList [c]).2.1.toArray⟩ : ByteArray) = s.extract (i + 1) s.size := e2
    have e3 : (Lib.cut s.data.toList [c]).2.2 = true := e3
    have HI := Lib.hid hI
    have HE := Lib.hid (And.intro e1 (And.intro e2 e3))
    clear hI e0 hix e1 e2 e3
    have c1 : (0 : Int) ≤ (i : Int) := by omega
    have c2 : (i : Int) ≤ (s.size : Int) := by omega
    have c4 : (i : Int) + 1 ≤ (s.size : Int) := by omega
    go_enter Tryz.func152, Tryz.ntmps152
    go_wp2_with fail
    refine (HI.out _).mono ?_
    rintro e w1 ⟨rfl, rfl⟩
    go_wp2_with fail
    go_region
    go_wp2_with fail
    go_ret3
    rw [HE.out.1, HE.out.2.1, HE.out.2.2]
    exact ⟨rfl, (Q.refl _).drew⟩
open Go.RowKit in
theorem cut_any (s : ByteArray) (c : UInt8) (w : World) (hs : s.size ≤ 1000000) :
    Calls Tryz.prog 127 #[.string s, .string ⟨#[c]⟩] w fun e w' => e = .returned (.tuple #[.string ⟨(Lib.cut s.data.toList [c]).1.toArray⟩, .string ⟨(Lib.cut s.data.toList [c]).2.1.toArray⟩, .bool (Lib.cut s.data.toList [c]).2.2]) ∧ Q w w' := by
  have hC := fun w => cutL_any s c w hs
  generalize Lib.cut s.data.toList [c] = R at *
  obtain ⟨r1, r2, r3⟩ := R
  go_enter Tryz.func127, Tryz.ntmps127
  go_wp2_with fail
  refine (hC _).mono ?_
  rintro e w1 ⟨rfl, hq⟩
  go_wp2_with fail
  go_ret3
  exact ⟨rfl, hq⟩
open Go.RowKit in
theorem split_any (s : ByteArray) (c : UInt8) (w : World) (hs : s.size ≤ 1000000) :
    Calls Tryz.prog 156 #[.string s, .string ⟨#[c]⟩] w fun e w' => ∃ v, e = .returned v ∧ SLst w' v (Lib.splitB ⟨#[c]⟩ 0 (Lib.countB s ⟨#[c]⟩) s) ∧ Q w w' := by
  have hle := Lib.countB_le ⟨#[c]⟩ (Nat.le_refl 1) s.size s (Nat.le_refl _)
  have hlen := Lib.splitB_all ⟨#[c]⟩ (Nat.le_refl 1) 0 _ s rfl
  have hC : Calls Tryz.prog 159 #[.string s, .string ⟨#[c]⟩] w fun e w' => e = .returned (.int .i64 (Lib.countB s ⟨#[c]⟩)) ∧ w' = w := by
    refine (count_any s c w).mono ?_
    rintro e w' ⟨rfl, rfl⟩
    refine ⟨?_, rfl⟩
    show _ = Ending.returned (Value.int .i64 ((Lib.count s.data.toList [c] : Nat) : Int))
    rw [Lib.count_one]; rfl
  have cc := Any.strings_genSplit_core shelfGenSplit (by kernel_rfl) s ⟨#[c]⟩ 0 (-1) (Lib.countB s ⟨#[c]⟩ + 1) w (by omega) (Nat.le_refl 1) (Nat.zero_le _)
    (fun x cs hx => by
      refine (index_any x c _).mono ?_
      rintro e w' ⟨rfl, rfl⟩
      refine ⟨?_, rfl⟩
      rw [show Lib.indexB x ⟨#[c]⟩ = Lib.indexByte x.data.toList c from Lib.index_one _ _]) hC (by decide) (by decide) (by rw [if_pos (by decide)]; omega)
  rw [Nat.add_sub_cancel, hlen] at cc
  have e2 : Lib.cellsOf (Lib.splitB ⟨#[c]⟩ 0 (Lib.countB s ⟨#[c]⟩) s) (Lib.countB s ⟨#[c]⟩ + 1) = ((Lib.splitB ⟨#[c]⟩ 0 (Lib.countB s ⟨#[c]⟩) s).map Value.string).toArray := by rw [← hlen]; exact Lib.cellsOf_full _
  rw [e2] at cc
  generalize Lib.splitB ⟨#[c]⟩ 0 (Lib.countB s ⟨#[c]⟩) s = L at *
  generalize Lib.countB s ⟨#[c]⟩ = N at *
  have CC := Lib.hid cc
  have HLN := Lib.hid hlen
  clear cc hC e2 hlen
  go_enter Tryz.func156, Tryz.ntmps156
  go_wp2_with fail
  refine CC.out.mono ?_
  rintro e w1 ⟨rfl, rfl⟩
  go_wp2_with fail
  go_ret
  exact ⟨_, rfl, GLst.made Value.string 9 w L (N + 1) HLN.out (by unfold maxLen; omega), (Q.refl _).alloc _⟩
end Sp
end Go.Proofs.YtglljkbpdbnhaaaGreatDoor

set_option linter.unusedVariables false
set_option linter.unusedSimpArgs false
namespace Go.Proofs.YtglljkbpdbnhaaaGreatDoor
open Go.RowKit
namespace Sp
/-- The place of a text among texts, counted from k. -/
def plc (x : ByteArray) : List ByteArray → Nat → Int
  | [], _ => -1
  | y :: r, k => if x = y then (k : Int) else plc x r (k + 1)
theorem plc_at {x : ByteArray} {xs : List ByteArray} {k : Nat} {y : ByteArray} (h : xs[k]? = some y) : plc x (xs.drop k) k = if x = y then (k : Int) else plc x (xs.drop (k + 1)) (k + 1) := by
  have hk := (List.getElem?_eq_some_iff.1 h).1
  have e := (List.getElem?_eq_some_iff.1 h).2
  rw [List.drop_eq_getElem_cons hk, e]; rfl
theorem plc_neg {x : ByteArray} (xs : List ByteArray) : ∀ k, (0 : Int) ≤ plc x xs k ↔ x ∈ xs := by
  induction xs with
  | nil => intro k; simp [plc]
  | cons y r ih =>
    intro k
    unfold plc
    by_cases h : x = y
    · rw [if_pos h]; simp [h]
    · rw [if_neg h, ih]; simp [h]

set_option maxHeartbeats 1000000 in
theorem idx_any (v : Value) (xs : List ByteArray) (x : ByteArray) (w : World) (hv : SLst w v xs) (hx : xs.length ≤ 1073741824) :
    Calls Tryz.prog 44 #[v, .string x] w fun e w' => e = .returned (.int .i64 (plc x xs 0)) ∧ w = w' := by
  obtain ⟨n, hn⟩ : ∃ n, n = xs.length := ⟨_, rfl⟩
  have HN := Lib.hid hn
  have HV := Lib.hid hv
  obtain ⟨a, cp, rfl, hc1, hc2⟩ := hv.form0 hn.symm
  rw [← hn] at hx
  obtain ⟨R, hR⟩ : ∃ R, R = plc x xs 0 := ⟨_, rfl⟩
  have HR := Lib.hid (show R = plc x (xs.drop 0) 0 by rw [hR]; rfl)
  rw [← hR]
  clear hn hv hR
  go_enter Tryz.func44, Tryz.ntmps44
  go_wp2_with fail
  go_loopw [8] (fun i wr => ∃ k : Nat, i = .int .i64 k ∧ k ≤ n ∧ Hid (R = plc x (xs.drop k) k) ∧ w = wr) (fun i _ => n - (intOf i).toNat)
  case atStart => exact ⟨0, rfl, by omega, HR, rfl⟩
  case round =>
    obtain ⟨k, rfl, hk, HK, rfl⟩ := hrel
    by_cases hlt : k < n
    · have hlti : (k : Int) < (n : Int) := by omega
      have hkl : k < xs.length := by have := HN.out; omega
      obtain ⟨y, hy⟩ : ∃ y, xs[k]? = some y := ⟨xs[k], List.getElem?_eq_getElem hkl⟩
      obtain ⟨g, off, cap, hvv, hg, _, _, c1⟩ := HV.out.cellOf HN.out.symm hy
      cases hvv
      have hp := plc_at (x := x) hy
      by_cases hxy : x = y
      · have HF := Lib.hid (show R = k by rw [HK.out, hp, if_pos hxy])
        have hb : (x.toList == y.toList) = true := by rw [hxy]; simp
        clear hp hy
        go_wp2_with fail
        go_ret
        rw [HF.out]
        exact ⟨rfl, rfl⟩
      · have HF := Lib.hid (show R = plc x (xs.drop (k + 1)) (k + 1) by rw [HK.out, hp, if_neg hxy])
        have hb := str_ne hxy
        clear hp hy
        go_wp2_with fail
        exact ⟨⟨k + 1, by go_num, by omega, HF, trivial⟩, by simp [intOf]; omega⟩
    · have hnlt : ¬ (k : Int) < (n : Int) := by omega
      have HF := Lib.hid (show R = -1 by rw [HK.out, List.drop_eq_nil_of_le (by have := HN.out; omega)]; rfl)
      go_wp2_with fail
      go_ret
      rw [HF.out]
      exact ⟨rfl, rfl⟩
theorem has_any (v : Value) (xs : List ByteArray) (x : ByteArray) (w : World) (hv : SLst w v xs) (hx : xs.length ≤ 1073741824) :
    Calls Tryz.prog 45 #[v, .string x] w fun e w' => e = .returned (.bool (decide (0 ≤ plc x xs 0))) ∧ w = w' := by
  have hI := fun w hv => idx_any v xs x w hv hx
  obtain ⟨a, cp, rfl, hc1, hc2⟩ := hv.shape2
  have HV := Lib.hid hv
  generalize plc x xs 0 = R at *
  have HI := Lib.hid hI
  generalize xs.length = n at *
  clear hI hv
  go_enter Tryz.func45, Tryz.ntmps45
  go_wp2_with fail
  refine (HI.out _ HV.out).mono ?_
  rintro e w1 ⟨rfl, rfl⟩
  go_wp2_with fail
  go_ret
  exact ⟨rfl, rfl⟩
end Sp
namespace Pg
open Pt Um

/-- First a, as many as one likes, then b. -/
def ordL (l : List UInt8) (a b : UInt8) : Bool := (Lib.trimB (Lib.trimLeftB l a) b).isEmpty
theorem ordered_any (s : ByteArray) (a b : UInt8) (ha : a.toNat < 128) (hb : b.toNat < 128) (w : World) (hs : s.size ≤ 1000000) :
    Calls Tryz.prog 158 #[.string s, .string ⟨#[a]⟩, .string ⟨#[b]⟩] w fun e w' => e = .returned (.bool (ordL s.data.toList a b)) ∧ Q w w' := by
  have h1 := fun w => Sp.trimLeft_any s a ha w
  have hl : (Lib.trimLeftB s.data.toList a).length ≤ 1000000 := by
    have : (Lib.trimLeftB s.data.toList a).length ≤ s.data.toList.length := (List.dropWhile_sublist _).length_le
    rw [size_list] at this; omega
  have h2 := fun w => Sp.trim_any ⟨(Lib.trimLeftB s.data.toList a).toArray⟩ b hb w (by simp [ByteArray.size]; omega)
  have e1 : (⟨(Lib.trimLeftB s.data.toList a).toArray⟩ : ByteArray).data.toList = Lib.trimLeftB s.data.toList a := by simp
  rw [e1] at h2
  unfold ordL
  generalize Lib.trimLeftB s.data.toList a = L at *
  obtain ⟨M, hM⟩ : ∃ M, M = Lib.trimB L b := ⟨_, rfl⟩
  rw [← hM] at h2 ⊢
  have H1 := Lib.hid h1
  have H2 := Lib.hid h2
  have he : (⟨M.toArray⟩ : ByteArray).toList.isEmpty = M.isEmpty := by rw [ByteArray.toList_eq]
  obtain ⟨r, hr⟩ : ∃ r, r = M.isEmpty := ⟨_, rfl⟩
  rw [← hr] at he ⊢
  generalize (⟨M.toArray⟩ : ByteArray) = MM at *
  clear h1 h2 hM hr e1
  go_enter Tryz.func158, Tryz.ntmps158
  go_wp2_with fail
  refine (H1.out _).mono ?_
  rintro e w1 ⟨rfl, rfl⟩
  go_wp2_with fail
  refine (H2.out _).mono ?_
  rintro e w2 ⟨rfl, hq⟩
  go_wp2_with fail
  go_ret
  exact ⟨rfl, hq⟩

/-- A number, of its signs, as the program counts them. -/
def prG (gs : List (List UInt8)) (frac : List UInt8) (pointed : Bool) : Option Nb :=
  if ([] : List UInt8) ∈ gs then none
  else if (ordL gs.flatten 35 48 && ordL frac 48 35) = false then none
  else if (pointed == !frac.isEmpty) = false then none
  else some ⟨if 1 < gs.length then ((gs.getD (gs.length - 1) []).length : Int) else 0, if 2 < gs.length then ((gs.getD (gs.length - 2) []).length : Int) else if 1 < gs.length then ((gs.getD (gs.length - 1) []).length : Int) else 0,
    ((Lib.countByte gs.flatten 48 : Nat) : Int), ((gs.flatten.length : Nat) : Int), ((Lib.countByte frac 48 : Nat) : Int), ((frac.length : Nat) : Int)⟩
def prN (s : List UInt8) : Option Nb := prG (Lib.split (Lib.cut s [46]).1 [44]) (Lib.cut s [46]).2.1 (Lib.cut s [46]).2.2

theorem infoN : (Tryz.prog.info? 153).map (·.size) = some 6 := by kernel_rfl
theorem extr_list {xs : List ByteArray} {gs : List (List UInt8)} (h : xs.map (·.data.toList) = gs) {k : Nat} (hk : k < gs.length) : ∃ y, xs[k]? = some y ∧ y.size = (gs.getD k []).length := by
  subst h
  have hk' : k < xs.length := by simpa using hk
  refine ⟨xs[k], List.getElem?_eq_getElem hk', ?_⟩
  rw [List.getD_eq_getElem?_getD, List.getElem?_map, List.getElem?_eq_getElem hk']
  simp [size_list]
theorem split_len (sep : List UInt8) : ∀ (k : Nat) (s : List UInt8), (Lib.splitK sep 0 k s).flatten.length ≤ s.length := by
  intro k
  induction k with
  | zero => intro s; simp [Lib.splitK]
  | succ k ih =>
    intro s
    unfold Lib.splitK
    split
    · simp
    · have := ih (s.drop ((Lib.index s sep).toNat + sep.length))
      rw [List.flatten_cons, List.length_append, List.length_take]
      rw [List.length_drop] at this
      omega
theorem splitK_num (sep : List UInt8) : ∀ (k : Nat) (s : List UInt8), (Lib.splitK sep 0 k s).length ≤ k + 1 := by
  intro k
  induction k with
  | zero => intro s; simp [Lib.splitK]
  | succ k ih =>
    intro s
    unfold Lib.splitK
    split
    · simp
    · have := ih (s.drop ((Lib.index s sep).toNat + sep.length))
      simp only [List.length_cons]; omega
set_option maxHeartbeats 2000000 in
set_option maxRecDepth 100000 in
theorem numberOf_any (s : ByteArray) (w : World) (hs : s.size ≤ 1000) (m : Nb) (hm : prN s.data.toList = some m) :
    Calls Tryz.prog 137 #[.string s] w fun e w' => e = .returned (.agg #[.int .i64 m.p, .int .i64 m.s, .int .i64 m.mi, .int .i64 m.xi, .int .i64 m.mf, .int .i64 m.xf]) ∧ Q w w' := by
  have hC := fun w => Sp.cut_any s 46 w (by omega)
  unfold prN at hm
  obtain ⟨K, hK⟩ : ∃ K, K = Lib.cut s.data.toList [46] := ⟨_, rfl⟩
  rw [← hK] at hC hm
  have hKl : K.1.length ≤ 1000 ∧ K.2.1.length ≤ 1000 := by
    have hsl := size_list s
    rw [hK]; unfold Lib.cut
    split <;> simp <;> omega
  obtain ⟨k1, k2, k3⟩ := K
  simp only at hC hm hKl
  obtain ⟨hk1, hk2⟩ := hKl
  have hS := fun w => Sp.split_any ⟨k1.toArray⟩ 44 w (by simp [ByteArray.size]; omega)
  obtain ⟨xs, hxs⟩ : ∃ xs, xs = Lib.splitB ⟨#[44]⟩ 0 (Lib.countB ⟨k1.toArray⟩ ⟨#[44]⟩) ⟨k1.toArray⟩ := ⟨_, rfl⟩
  have hgs : xs.map (·.data.toList) = Lib.split k1 [44] := by rw [hxs, Lib.splitB_data]; rfl
  have hgl : (Lib.split k1 [44]).flatten.length ≤ 1000 := Nat.le_trans (split_len _ _ _) hk1
  have hgn : (Lib.split k1 [44]).length ≤ 1001 := by
    have h1 := splitK_num [44] (Lib.count k1 [44]) k1
    have h2 := Lib.countB_le ⟨#[44]⟩ (Nat.le_refl 1) _ ⟨k1.toArray⟩ (Nat.le_refl _)
    have h3 : Lib.count k1 [44] ≤ 1000 := Nat.le_trans h2 (by simp [ByteArray.size]; omega)
    exact Nat.le_trans h1 (by omega)
  rw [← hxs] at hS
  clear hxs hK
  generalize Lib.split k1 [44] = gs at *
  have hcat : cat xs = gs.flatten := by rw [← hgs, List.flatten_eq_flatMap, List.flatMap_map]; rfl
  have hlen : xs.length = gs.length := by rw [← hgs, List.length_map]
  have hX := fun k hk => extr_list (k := k) hgs hk
  unfold prG at hm
  split at hm
  · cases hm
  rename_i hno
  split at hm
  · cases hm
  rename_i hord
  split at hm
  · cases hm
  rename_i hpt
  have hno' : decide (0 ≤ Sp.plc ByteArray.empty xs 0) = false := by
    rw [decide_eq_false_iff_not, Sp.plc_neg]
    intro h
    apply hno
    rw [← hgs]
    exact List.mem_map.2 ⟨_, h, rfl⟩
  have hord : ordL gs.flatten 35 48 = true ∧ ordL k2 48 35 = true := by
    simp only [Bool.not_eq_false, Bool.and_eq_true] at hord
    exact hord
  have hpt : k3 = !k2.isEmpty := by cases k3 <;> cases hke : k2.isEmpty <;> simp_all
  have hm := Option.some.inj hm
  have HA := fun v w hv => Sp.has_any v xs ByteArray.empty w hv (by omega)
  rw [hno'] at HA
  have HJ := fun v w hv => sjoin_any v xs w hv (by omega) (by rw [hcat]; omega)
  rw [hcat] at HJ
  have hz1 : (⟨gs.flatten.toArray⟩ : ByteArray).size = gs.flatten.length := by simp only [ByteArray.size, List.size_toArray]
  have O1 := fun w => ordered_any ⟨gs.flatten.toArray⟩ 35 48 (by decide) (by decide) w (by rw [hz1]; omega)
  have O2 := fun w => ordered_any ⟨k2.toArray⟩ 48 35 (by decide) (by decide) w (by simp [ByteArray.size]; omega)
  have C1 := fun w => Sp.count_any ⟨gs.flatten.toArray⟩ 48 w
  have C2 := fun w => Sp.count_any ⟨k2.toArray⟩ 48 w
  rw [show (⟨gs.flatten.toArray⟩ : ByteArray).data.toList = gs.flatten by simp] at O1 C1
  rw [show (⟨k2.toArray⟩ : ByteArray).data.toList = k2 by simp] at O2 C2
  rw [hord.1] at O1
  rw [hord.2] at O2
  have hz2 : (⟨k2.toArray⟩ : ByteArray).size = k2.length := by simp [ByteArray.size]
  have he2 : (⟨k2.toArray⟩ : ByteArray).toList.isEmpty = k2.isEmpty := by rw [ByteArray.toList_eq]
  rw [hpt] at hC
  obtain ⟨em, hem⟩ : ∃ em, em = k2.isEmpty := ⟨_, rfl⟩
  rw [← hem] at hC he2
  obtain ⟨l1, hl1⟩ : ∃ l1, l1 = gs.flatten.length := ⟨_, rfl⟩
  obtain ⟨l2, hl2⟩ : ∃ l2, l2 = k2.length := ⟨_, rfl⟩
  obtain ⟨c1, hc1⟩ : ∃ c1, c1 = Lib.countByte gs.flatten 48 := ⟨_, rfl⟩
  obtain ⟨c2, hc2⟩ : ∃ c2, c2 = Lib.countByte k2 48 := ⟨_, rfl⟩
  rw [← hl1] at hz1 hm hgl
  rw [← hl2] at hz2 hm
  rw [← hc1] at C1 hm
  rw [← hc2] at C2 hm
  obtain ⟨n, hn⟩ : ∃ n, n = gs.length := ⟨_, rfl⟩
  rw [← hn] at hlen hgn hm hX
  generalize gs.flatten.toArray = G at *
  generalize (⟨G⟩ : ByteArray) = GB at *
  generalize (⟨k2.toArray⟩ : ByteArray) = FB at *
  generalize (⟨k1.toArray⟩ : ByteArray) = WB at *
  have H1 := Lib.hid hC
  have H2 := Lib.hid hS
  have H3 := Lib.hid HA
  have H4 := Lib.hid HJ
  have H5 := Lib.hid O1
  have H6 := Lib.hid O2
  have H7 := Lib.hid C1
  have H8 := Lib.hid C2
  have HX := Lib.hid hX
  have HM := Lib.hid hm
  have HLN := Lib.hid hlen
  clear hC hS HA HJ O1 O2 C1 C2 hX hm hlen hno hno' hord hpt hcat hgs hl1 hl2 hc1 hc2 hn hem
  go_enter Tryz.func137, Tryz.ntmps137
  go_wp2_with fail
  refine (H1.out _).mono ?_
  rintro e w1 ⟨rfl, hq1⟩
  go_wp2_with fail
  refine (H2.out _).mono ?_
  rintro e w2 ⟨v, rfl, hv, hq2⟩
  have HV2 := Lib.hid hv
  obtain ⟨a, cp, rfl, hcp1, hcp2⟩ := hv.form0 HLN.out
  clear hv
  go_wp2_with fail
  refine (H3.out _ _ HV2.out).mono ?_
  rintro e w3 ⟨rfl, rfl⟩
  go_wp2_with fail
  refine (need_yes _).mono ?_
  rintro e w3 ⟨rfl, rfl⟩
  go_wp2_with fail
  refine (H4.out _ _ HV2.out).mono ?_
  rintro e w3 ⟨rfl, hq3⟩
  go_wp2_with fail
  refine (H5.out _).mono ?_
  rintro e w4 ⟨rfl, hq4⟩
  go_wp2_with fail
  refine (H6.out _).mono ?_
  rintro e w5 ⟨rfl, hq5⟩
  go_wp2_with fail
  refine (need_yes _).mono ?_
  rintro e w5 ⟨rfl, rfl⟩
  go_wp2_with fail
  refine (need_yes _).mono ?_
  rintro e w5 ⟨rfl, rfl⟩
  go_wp2_with fail
  refine (H7.out _).mono ?_
  rintro e w6 ⟨rfl, rfl⟩
  go_wp2_with fail
  refine (H8.out _).mono ?_
  rintro e w6 ⟨rfl, rfl⟩
  have HQ5 := Lib.hid ((((((Q.refl w).alloc (.cells #[.int .i64 0, .int .i64 0, .int .i64 0, .int .i64 0, .int .i64 0, .int .i64 0] 153)).trans hq1).trans hq2).trans (hq3.trans (hq4.trans hq5))))
  have HB5 := Lib.hid (Bk.q (Bk.new w 153 [.int .i64 0, .int .i64 0, .int .i64 0, .int .i64 0, .int .i64 0, .int .i64 0]) (hq1.trans (hq2.trans (hq3.trans (hq4.trans hq5)))))
  have HV5 := Lib.hid (HV2.out.q (hq3.trans (hq4.trans hq5)))
  clear hq1 hq2 hq3 hq4 hq5
  obtain ⟨z, hz⟩ : ∃ z, z = w5.alloc (.cells #[.int .i64 0, .int .i64 0, .int .i64 c1, .int .i64 l1, .int .i64 c2, .int .i64 l2] 153) := ⟨_, rfl⟩
  have HQz := Lib.hid (show Q w z by rw [hz]; exact HQ5.out.alloc _)
  have HBz := Lib.hid (show Bk z w.heap.size 153 [.int .i64 0, .int .i64 0, .int .i64 0, .int .i64 0, .int .i64 0, .int .i64 0] by rw [hz]; exact HB5.out.q ((Q.refl w5).alloc _))
  have HGz := Lib.hid (show Bk z w5.heap.size 153 [.int .i64 0, .int .i64 0, .int .i64 c1, .int .i64 l1, .int .i64 c2, .int .i64 l2] by rw [hz]; exact Bk.new w5 _ _)
  have HVz := Lib.hid (show SLst z (.slice a n cp) xs by rw [hz]; exact HV5.out.q ((Q.refl w5).alloc _))
  have hBG : w.heap.size < w5.heap.size := HB5.out.lt
  have HVc := Lib.hid (show ∀ k x, xs[k]? = some x → ∃ g off, a = some ⟨g, off, none⟩ ∧ g < w5.heap.size ∧ z.cell? ⟨g, off + k, none⟩ = some (.string x) from fun k x hk => by
    obtain ⟨g, off, cap, hvv, hg, _, _, d⟩ := HV5.out.cellOf HLN.out hk
    cases hvv
    refine ⟨g, off, rfl, hg, ?_⟩
    rw [hz]
    exact (World.cell?_of_block (w := w5) (((Q.refl w5).alloc _).block hg)).trans d)
  have hGz : w5.heap.size < z.heap.size := HGz.out.lt
  have hGw : w.heap.size ≤ w5.heap.size := by omega
  go_upto_region 8 with fail
  rw [← hz]
  clear hz
  obtain ⟨G, hG⟩ : ∃ G, G = w5.heap.size := ⟨_, rfl⟩
  rw [← hG] at HGz hBG hGw HVc hGz ⊢
  have HBw := Lib.hid (show w.heap.size ≤ w.heap.size from Nat.le_refl _)
  have HGw := Lib.hid hGw
  clear hG hGw HB5 HV5 HQ5
  have HBw : Hid (w.heap.size ≤ w.heap.size) := HBw
  obtain ⟨B, hB⟩ : ∃ B, B = w.heap.size := ⟨_, rfl⟩
  have HBw : Hid (w.heap.size ≤ B) := Lib.hid (by omega)
  rw [← hB] at HBz hBG ⊢
  clear hB
  have hne1 : ¬ B = G := by omega
  have hne2 : ¬ G = B := by omega
  by_cases h1 : 1 < n
  · have h1i : (1 : Int) < (n : Int) := by omega
    obtain ⟨y, hy, hyz⟩ := HX.out (n - 1) (by omega)
    obtain ⟨g, off, rfl, hg, d1⟩ := HVc.out _ _ hy
    have HY := Lib.hid hyz
    have hn1 : (n : Int) - 1 = ((n - 1 : Nat) : Int) := by omega
    obtain ⟨n1, hn1'⟩ : ∃ n1, n1 = n - 1 := ⟨_, rfl⟩
    rw [← hn1'] at d1 hn1
    have HN1 := Lib.hid hn1'
    have hn1l : n1 < n := by omega
    have hn1li : (n1 : Int) < (n : Int) := by omega
    clear hyz hn1' hy
    have HB1 := Lib.hid (((HBz.out.past (g := G) (i := 0) hne2 (.int .i64 y.size)).past (g := G) (i := 1) hne2 (.int .i64 y.size)))
    have HG1 := Lib.hid ((HGz.out.set 0 (.int .i64 y.size)).set 1 (.int .i64 y.size))
    have HQ1 := Lib.hid (Q.setCell (Q.setCell HQz.out (ad := ⟨G, 0, none⟩) HGw.out (.int .i64 y.size)) (ad := ⟨G, 1, none⟩) HGw.out (.int .i64 y.size))
    have HV1 := Lib.hid (fun k (y2 : ByteArray) (hk : xs[k]? = some y2) => (by
      obtain ⟨g', off', he, hg', d⟩ := HVc.out _ _ hk
      cases he
      exact cell_past (cell_past d (by omega) (by omega) (.int .i64 y.size)) (by rw [World.size_setCell]; omega) (by omega) (.int .i64 y.size) : ((z.setCell ⟨G, 0, none⟩ (.int .i64 y.size)).setCell ⟨G, 1, none⟩ (.int .i64 y.size)).cell? ⟨g, off + k, none⟩ = some (.string y2)))
    obtain ⟨x, hx⟩ : ∃ x, x = (z.setCell ⟨G, 0, none⟩ (.int .i64 y.size)).setCell ⟨G, 1, none⟩ (.int .i64 y.size) := ⟨_, rfl⟩
    rw [← hx] at HB1 HG1 HQ1 HV1
    have b0 := HGz.out.cell 0 rfl
    have b1 := HGz.out.cell 1 rfl
    have f0 := HGz.out.free 0
    have f1 := HGz.out.free 1
    go_upto_region 12 with fail
    rw [← hx]
    clear hx b0 b1 f0 f1 d1 HBz HGz HQz HVz
    by_cases h2 : 2 < n
    · have h2i : (2 : Int) < (n : Int) := by omega
      obtain ⟨y2, hy2, hyz2⟩ := HX.out (n - 2) (by omega)
      have d2 := HV1.out _ _ hy2
      have HY2 := Lib.hid hyz2
      have hn2 : (n : Int) - 2 = ((n - 2 : Nat) : Int) := by omega
      obtain ⟨n2, hn2'⟩ : ∃ n2, n2 = n - 2 := ⟨_, rfl⟩
      rw [← hn2'] at d2 hn2
      have HN2 := Lib.hid hn2'
      have hn2l : n2 < n := by omega
      have hn2li : (n2 : Int) < (n : Int) := by omega
      clear hyz2 hn2' hy2
      have HB2 := Lib.hid (HB1.out.past (g := G) (i := 1) hne2 (.int .i64 y2.size))
      have HG2 := Lib.hid (HG1.out.set 1 (.int .i64 y2.size))
      have HQ2 := Lib.hid (Q.setCell HQ1.out (ad := ⟨G, 1, none⟩) HGw.out (.int .i64 y2.size))
      obtain ⟨x2, hx2⟩ : ∃ x2, x2 = x.setCell ⟨G, 1, none⟩ (.int .i64 y2.size) := ⟨_, rfl⟩
      rw [← hx2] at HB2 HG2 HQ2
      have b1 := HG1.out.cell 1 rfl
      have f1 := HG1.out.free 1
      go_upto_region 14 with fail
      rw [← hx2]
      clear hx2 b1 f1 d2 HB1 HG1 HQ1 HV1
      have HB := HB2
      have HG := HG2
      have HQ := HQ2
      have b0 := HB.out.cell 0 rfl
      have f0 := HB.out.free 0
      have b1 := HB.out.cell 1 rfl
      have f1 := HB.out.free 1
      have b2 := HB.out.cell 2 rfl
      have f2 := HB.out.free 2
      have b3 := HB.out.cell 3 rfl
      have f3 := HB.out.free 3
      have b4 := HB.out.cell 4 rfl
      have f4 := HB.out.free 4
      have b5 := HB.out.cell 5 rfl
      have f5 := HB.out.free 5
      have d0 := HG.out.cell 0 rfl
      have e0 := HG.out.free 0
      have d1 := HG.out.cell 1 rfl
      have e1 := HG.out.free 1
      have d2 := HG.out.cell 2 rfl
      have e2 := HG.out.free 2
      have d3 := HG.out.cell 3 rfl
      have e3 := HG.out.free 3
      have d4 := HG.out.cell 4 rfl
      have e4 := HG.out.free 4
      have d5 := HG.out.cell 5 rfl
      have e5 := HG.out.free 5
      have HF := Lib.hid ((((((HB.out.set 0 (.int .i64 y.size)).set 1 (.int .i64 y2.size)).set 2 (.int .i64 c1)).set 3 (.int .i64 l1)).set 4 (.int .i64 c2)).set 5 (.int .i64 l2))
      have HQF := Lib.hid (Q.setCell (Q.setCell (Q.setCell (Q.setCell (Q.setCell (Q.setCell HQ.out (ad := ⟨B, 0, none⟩) HBw.out (.int .i64 y.size)) (ad := ⟨B, 1, none⟩) HBw.out (.int .i64 y2.size)) (ad := ⟨B, 2, none⟩) HBw.out (.int .i64 c1)) (ad := ⟨B, 3, none⟩) HBw.out (.int .i64 l1)) (ad := ⟨B, 4, none⟩) HBw.out (.int .i64 c2)) (ad := ⟨B, 5, none⟩) HBw.out (.int .i64 l2))
      go_wp2_with fail
      refine ret_bk rfl Tryz.underlying153 (by exact infoN) rfl HF.out rfl ⟨?_, HQF.out⟩
      rw [← HM.out]
      simp only [if_pos h1, if_pos h2, ← HY.out, ← HY2.out]
      rfl
    · have h2i : ¬ (2 : Int) < (n : Int) := by omega
      have HB := HB1
      have HG := HG1
      have HQ := HQ1
      have b0 := HB.out.cell 0 rfl
      have f0 := HB.out.free 0
      have b1 := HB.out.cell 1 rfl
      have f1 := HB.out.free 1
      have b2 := HB.out.cell 2 rfl
      have f2 := HB.out.free 2
      have b3 := HB.out.cell 3 rfl
      have f3 := HB.out.free 3
      have b4 := HB.out.cell 4 rfl
      have f4 := HB.out.free 4
      have b5 := HB.out.cell 5 rfl
      have f5 := HB.out.free 5
      have d0 := HG.out.cell 0 rfl
      have e0 := HG.out.free 0
      have d1 := HG.out.cell 1 rfl
      have e1 := HG.out.free 1
      have d2 := HG.out.cell 2 rfl
      have e2 := HG.out.free 2
      have d3 := HG.out.cell 3 rfl
      have e3 := HG.out.free 3
      have d4 := HG.out.cell 4 rfl
      have e4 := HG.out.free 4
      have d5 := HG.out.cell 5 rfl
      have e5 := HG.out.free 5
      have HF := Lib.hid ((((((HB.out.set 0 (.int .i64 y.size)).set 1 (.int .i64 y.size)).set 2 (.int .i64 c1)).set 3 (.int .i64 l1)).set 4 (.int .i64 c2)).set 5 (.int .i64 l2))
      have HQF := Lib.hid (Q.setCell (Q.setCell (Q.setCell (Q.setCell (Q.setCell (Q.setCell HQ.out (ad := ⟨B, 0, none⟩) HBw.out (.int .i64 y.size)) (ad := ⟨B, 1, none⟩) HBw.out (.int .i64 y.size)) (ad := ⟨B, 2, none⟩) HBw.out (.int .i64 c1)) (ad := ⟨B, 3, none⟩) HBw.out (.int .i64 l1)) (ad := ⟨B, 4, none⟩) HBw.out (.int .i64 c2)) (ad := ⟨B, 5, none⟩) HBw.out (.int .i64 l2))
      go_wp2_with fail
      refine ret_bk rfl Tryz.underlying153 (by exact infoN) rfl HF.out rfl ⟨?_, HQF.out⟩
      rw [← HM.out]
      simp only [if_pos h1, if_neg h2, ← HY.out]
      rfl
  · have h1i : ¬ (1 : Int) < (n : Int) := by omega
    have h2 : ¬ 2 < n := by omega
    have HB := HBz
    have HG := HGz
    have HQ := HQz
    have b0 := HB.out.cell 0 rfl
    have f0 := HB.out.free 0
    have b1 := HB.out.cell 1 rfl
    have f1 := HB.out.free 1
    have b2 := HB.out.cell 2 rfl
    have f2 := HB.out.free 2
    have b3 := HB.out.cell 3 rfl
    have f3 := HB.out.free 3
    have b4 := HB.out.cell 4 rfl
    have f4 := HB.out.free 4
    have b5 := HB.out.cell 5 rfl
    have f5 := HB.out.free 5
    have d0 := HG.out.cell 0 rfl
    have e0 := HG.out.free 0
    have d1 := HG.out.cell 1 rfl
    have e1 := HG.out.free 1
    have d2 := HG.out.cell 2 rfl
    have e2 := HG.out.free 2
    have d3 := HG.out.cell 3 rfl
    have e3 := HG.out.free 3
    have d4 := HG.out.cell 4 rfl
    have e4 := HG.out.free 4
    have d5 := HG.out.cell 5 rfl
    have e5 := HG.out.free 5
    have HF := Lib.hid ((((((HB.out.set 0 (.int .i64 0)).set 1 (.int .i64 0)).set 2 (.int .i64 c1)).set 3 (.int .i64 l1)).set 4 (.int .i64 c2)).set 5 (.int .i64 l2))
    have HQF := Lib.hid (Q.setCell (Q.setCell (Q.setCell (Q.setCell (Q.setCell (Q.setCell HQ.out (ad := ⟨B, 0, none⟩) HBw.out (.int .i64 0)) (ad := ⟨B, 1, none⟩) HBw.out (.int .i64 0)) (ad := ⟨B, 2, none⟩) HBw.out (.int .i64 c1)) (ad := ⟨B, 3, none⟩) HBw.out (.int .i64 l1)) (ad := ⟨B, 4, none⟩) HBw.out (.int .i64 c2)) (ad := ⟨B, 5, none⟩) HBw.out (.int .i64 l2))
    go_wp2_with fail
    refine ret_bk rfl Tryz.underlying153 (by exact infoN) rfl HF.out rfl ⟨?_, HQF.out⟩
    rw [← HM.out]
    simp only [if_neg h1, if_neg h2]
    rfl
end Pg
end Go.Proofs.YtglljkbpdbnhaaaGreatDoor
