import Derived.Shelf.Strings.Builder1
import Derived.Shelf.Strings.BuilderF
import Derived.Shelf.Strings.BuilderK
import Derived.Shelf.Strconv.Atoi
import Derived.Shelf.LaysM
import Derived.Shelf.Strconv.Itoa3
import Derived.Shelf.Strconv.Itoa4
import Derived.Shelf.LaysC
import Derived.Shelf.Strconv.ParseIntPublic10
import Derived.Shelf.Strconv.ErrVarParseInt
import Derived.Shelf.Strconv.Clone
import Derived.Test.YtihgojcfpnhelaaGreatDoorRows
import Derived.Test.YtihgojcfpnhelaaGreatDoorR2I
import Derived.Deep.LoopGhost
import Derived.Deep.RegionLaw
import Derived.Deep.AppendLies
set_option maxRecDepth 100000
set_option maxHeartbeats 4000000
set_option linter.unusedVariables false
set_option linter.unusedSimpArgs false
namespace Go.Proofs
open Go.Shelf
def Tryz.lays169_ren : Go.Shelf.Ren := ⟨fun | 169 => 96 | n => n, fun | 70 => 167 | 9 => 9 | 0 => 0 | 72 => 170 | 37 => 168 | 127 => 214 | 3 => 3 | 5 => 5 | n => n, fun | n => n⟩
theorem Tryz.lays169 : Go.Proofs.Lays.n169 Tryz.prog Tryz.lays169_ren := {
 mixed := by kernel_rfl
 f169 := Tryz.func96.trans (congrArg some (by kernel_rfl))
 t0 := Tryz.underlying0
 a0 := Tryz.isAgg0
 z0 := Tryz.sizeOf0
 v0 := Tryz.zeroValue0
 t3 := Tryz.underlying3
 a3 := Tryz.isAgg3
 z3 := Tryz.sizeOf3
 v3 := Tryz.zeroValue3
 t9 := Tryz.underlying9
 a9 := Tryz.isAgg9
 z9 := Tryz.sizeOf9
 v9 := Tryz.zeroValue9
 t37 := Tryz.underlying168
 a37 := Tryz.isAgg168
 z37 := Tryz.sizeOf168
 v37 := Tryz.zeroValue168
 t70 := Tryz.underlying167
 a70 := Tryz.isAgg167
 z70 := Tryz.sizeOf167
 v70 := Tryz.zeroValue167
 t72 := Tryz.underlying170
 a72 := Tryz.isAgg170
 z72 := Tryz.sizeOf170
 v72 := Tryz.zeroValue170
 t127 := Tryz.underlying214
 a127 := Tryz.isAgg214
 z127 := Tryz.sizeOf214
 v127 := Tryz.zeroValue214 }
def Tryz.lays171_ren : Go.Shelf.Ren := ⟨fun | 171 => 50 | 243 => 73 | 246 => 108 | 283 => 144 | 284 => 145 | 285 => 146 | 286 => 147 | 129 => 174 | 317 => 173 | 318 => 175 | 319 => 176 | 320 => 177 | 337 => 205 | 338 => 206 | n => n, fun | 3 => 3 | 9 => 9 | 2 => 2 | 4 => 4 | 171 => 232 | 0 => 0 | 53 => 187 | 37 => 168 | 5 => 5 | 173 => 235 | 212 => 264 | 51 => 265 | 20 => 20 | 213 => 266 | 46 => 267 | 232 => 317 | 233 => 318 | n => n, fun | 17 => 5 | 18 => 9 | 19 => 10 | n => n⟩
theorem Tryz.lays171 : Go.Proofs.Lays.n171 Tryz.prog Tryz.lays171_ren := {
 mixed := by kernel_rfl
 f129 := Tryz.func174.trans (congrArg some (by kernel_rfl))
 f171 := Tryz.func50.trans (congrArg some (by kernel_rfl))
 f243 := Tryz.func73.trans (congrArg some (by kernel_rfl))
 f246 := Tryz.func108.trans (congrArg some (by kernel_rfl))
 f283 := Tryz.func144.trans (congrArg some (by kernel_rfl))
 f284 := Tryz.func145.trans (congrArg some (by kernel_rfl))
 f285 := Tryz.func146.trans (congrArg some (by kernel_rfl))
 f286 := Tryz.func147.trans (congrArg some (by kernel_rfl))
 f317 := Tryz.func173.trans (congrArg some (by kernel_rfl))
 f318 := Tryz.func175.trans (congrArg some (by kernel_rfl))
 f319 := Tryz.func176.trans (congrArg some (by kernel_rfl))
 f320 := Tryz.func177.trans (congrArg some (by kernel_rfl))
 f337 := Tryz.func205.trans (congrArg some (by kernel_rfl))
 f338 := Tryz.func206.trans (congrArg some (by kernel_rfl))
 t0 := Tryz.underlying0
 a0 := Tryz.isAgg0
 z0 := Tryz.sizeOf0
 v0 := Tryz.zeroValue0
 t2 := Tryz.underlying2
 a2 := Tryz.isAgg2
 z2 := Tryz.sizeOf2
 v2 := Tryz.zeroValue2
 t3 := Tryz.underlying3
 a3 := Tryz.isAgg3
 z3 := Tryz.sizeOf3
 v3 := Tryz.zeroValue3
 t4 := Tryz.underlying4
 a4 := Tryz.isAgg4
 z4 := Tryz.sizeOf4
 v4 := Tryz.zeroValue4
 t5 := Tryz.underlying5
 a5 := Tryz.isAgg5
 z5 := Tryz.sizeOf5
 v5 := Tryz.zeroValue5
 t9 := Tryz.underlying9
 a9 := Tryz.isAgg9
 z9 := Tryz.sizeOf9
 v9 := Tryz.zeroValue9
 t20 := Tryz.underlying20
 a20 := Tryz.isAgg20
 z20 := Tryz.sizeOf20
 v20 := Tryz.zeroValue20
 t37 := Tryz.underlying168
 a37 := Tryz.isAgg168
 z37 := Tryz.sizeOf168
 v37 := Tryz.zeroValue168
 t46 := Tryz.underlying267
 a46 := Tryz.isAgg267
 z46 := Tryz.sizeOf267
 v46 := Tryz.zeroValue267
 t51 := Tryz.underlying265
 a51 := Tryz.isAgg265
 z51 := Tryz.sizeOf265
 v51 := Tryz.zeroValue265
 t53 := Tryz.underlying187
 a53 := Tryz.isAgg187
 z53 := Tryz.sizeOf187
 v53 := Tryz.zeroValue187
 t171 := Tryz.underlying232
 a171 := Tryz.isAgg232
 z171 := Tryz.sizeOf232
 v171 := Tryz.zeroValue232
 t173 := Tryz.underlying235
 a173 := Tryz.isAgg235
 z173 := Tryz.sizeOf235
 v173 := Tryz.zeroValue235
 t212 := Tryz.underlying264
 a212 := Tryz.isAgg264
 z212 := Tryz.sizeOf264
 v212 := Tryz.zeroValue264
 t213 := Tryz.underlying266
 a213 := Tryz.isAgg266
 z213 := Tryz.sizeOf266
 t232 := Tryz.underlying317
 a232 := Tryz.isAgg317
 z232 := Tryz.sizeOf317
 v232 := Tryz.zeroValue317
 t233 := Tryz.underlying318
 a233 := Tryz.isAgg318
 z233 := Tryz.sizeOf318
 v233 := Tryz.zeroValue318
 g17 := by kernel_rfl
 g18 := by kernel_rfl
 g19 := by kernel_rfl }
def Tryz.laysM173_ren : Go.Shelf.Ren := ⟨fun | 173 => 132 | 246 => 108 | 283 => 144 | 284 => 145 | 285 => 146 | 286 => 147 | 129 => 174 | 317 => 173 | 318 => 175 | 319 => 176 | 320 => 177 | 337 => 205 | 338 => 206 | n => n, fun | 2 => 2 | 3 => 3 | 9 => 9 | 4 => 4 | 171 => 232 | 0 => 0 | 53 => 187 | 37 => 168 | 5 => 5 | 173 => 235 | 212 => 264 | 51 => 265 | 20 => 20 | 213 => 266 | 46 => 267 | 232 => 317 | 233 => 318 | n => n, fun | 17 => 5 | 18 => 9 | 19 => 10 | n => n⟩
theorem Tryz.laysM173 : Go.Proofs.LaysM.n173 Tryz.prog Tryz.laysM173_ren := {
 mixed := by kernel_rfl
 f129 := Tryz.func174.trans (congrArg some (by kernel_rfl))
 f173 := Tryz.func132.trans (congrArg some (by kernel_rfl))
 f246 := Tryz.func108.trans (congrArg some (by kernel_rfl))
 f283 := Tryz.func144.trans (congrArg some (by kernel_rfl))
 f284 := Tryz.func145.trans (congrArg some (by kernel_rfl))
 f285 := Tryz.func146.trans (congrArg some (by kernel_rfl))
 f286 := Tryz.func147.trans (congrArg some (by kernel_rfl))
 f317 := Tryz.func173.trans (congrArg some (by kernel_rfl))
 f318 := Tryz.func175.trans (congrArg some (by kernel_rfl))
 f319 := Tryz.func176.trans (congrArg some (by kernel_rfl))
 f320 := Tryz.func177.trans (congrArg some (by kernel_rfl))
 f337 := Tryz.func205.trans (congrArg some (by kernel_rfl))
 f338 := Tryz.func206.trans (congrArg some (by kernel_rfl))
 t0 := Tryz.underlying0
 a0 := Tryz.isAgg0
 z0 := Tryz.sizeOf0
 v0 := Tryz.zeroValue0
 t2 := Tryz.underlying2
 a2 := Tryz.isAgg2
 z2 := Tryz.sizeOf2
 v2 := Tryz.zeroValue2
 t3 := Tryz.underlying3
 a3 := Tryz.isAgg3
 z3 := Tryz.sizeOf3
 v3 := Tryz.zeroValue3
 t4 := Tryz.underlying4
 a4 := Tryz.isAgg4
 z4 := Tryz.sizeOf4
 v4 := Tryz.zeroValue4
 t5 := Tryz.underlying5
 a5 := Tryz.isAgg5
 z5 := Tryz.sizeOf5
 v5 := Tryz.zeroValue5
 t9 := Tryz.underlying9
 a9 := Tryz.isAgg9
 z9 := Tryz.sizeOf9
 v9 := Tryz.zeroValue9
 t20 := Tryz.underlying20
 a20 := Tryz.isAgg20
 z20 := Tryz.sizeOf20
 v20 := Tryz.zeroValue20
 t37 := Tryz.underlying168
 a37 := Tryz.isAgg168
 z37 := Tryz.sizeOf168
 v37 := Tryz.zeroValue168
 t46 := Tryz.underlying267
 a46 := Tryz.isAgg267
 z46 := Tryz.sizeOf267
 v46 := Tryz.zeroValue267
 t51 := Tryz.underlying265
 a51 := Tryz.isAgg265
 z51 := Tryz.sizeOf265
 v51 := Tryz.zeroValue265
 t53 := Tryz.underlying187
 a53 := Tryz.isAgg187
 z53 := Tryz.sizeOf187
 v53 := Tryz.zeroValue187
 t171 := Tryz.underlying232
 a171 := Tryz.isAgg232
 z171 := Tryz.sizeOf232
 v171 := Tryz.zeroValue232
 t173 := Tryz.underlying235
 a173 := Tryz.isAgg235
 z173 := Tryz.sizeOf235
 v173 := Tryz.zeroValue235
 t212 := Tryz.underlying264
 a212 := Tryz.isAgg264
 z212 := Tryz.sizeOf264
 v212 := Tryz.zeroValue264
 t213 := Tryz.underlying266
 a213 := Tryz.isAgg266
 z213 := Tryz.sizeOf266
 t232 := Tryz.underlying317
 a232 := Tryz.isAgg317
 z232 := Tryz.sizeOf317
 v232 := Tryz.zeroValue317
 t233 := Tryz.underlying318
 a233 := Tryz.isAgg318
 z233 := Tryz.sizeOf318
 v233 := Tryz.zeroValue318
 g17 := by kernel_rfl
 g18 := by kernel_rfl
 g19 := by kernel_rfl
 i0 := by kernel_rfl
 i2 := by kernel_rfl
 i3 := by kernel_rfl
 i4 := by kernel_rfl
 i5 := by kernel_rfl
 i9 := by kernel_rfl
 i20 := by kernel_rfl
 i37 := by kernel_rfl
 i46 := by kernel_rfl
 i51 := by kernel_rfl
 i53 := by kernel_rfl
 i171 := by kernel_rfl
 i173 := by kernel_rfl
 i212 := by kernel_rfl
 i232 := by kernel_rfl
 i233 := by kernel_rfl
 m17 := by kernel_rfl
 m18 := by kernel_rfl
 m19 := by kernel_rfl }
def Tryz.laysC174_ren : Go.Shelf.Ren := ⟨fun | 174 => 125 | 247 => 156 | 245 => 149 | 287 => 187 | 279 => 178 | 280 => 179 | 281 => 180 | 282 => 181 | 321 => 213 | 322 => 214 | 316 => 157 | 171 => 50 | 205 => 207 | 243 => 73 | 246 => 108 | 283 => 144 | 284 => 145 | 285 => 146 | 286 => 147 | 129 => 174 | 317 => 173 | 318 => 175 | 319 => 176 | 320 => 177 | 337 => 205 | 338 => 206 | n => n, fun | 9 => 9 | 3 => 3 | 2 => 2 | 75 => 189 | 85 => 205 | 4 => 4 | 167 => 269 | 5 => 5 | 53 => 187 | 175 => 277 | 46 => 267 | 168 => 270 | 37 => 168 | 0 => 0 | 210 => 297 | 21 => 21 | 127 => 214 | 145 => 321 | 143 => 319 | 171 => 232 | 173 => 235 | 212 => 264 | 51 => 265 | 20 => 20 | 213 => 266 | 232 => 317 | 233 => 318 | 80 => 92 | n => n, fun | 15 => 7 | 16 => 8 | 17 => 5 | 18 => 9 | 19 => 10 | n => n⟩
theorem Tryz.laysC174 : Go.Proofs.LaysC.n174 Tryz.prog Tryz.laysC174_ren := {
 mixed := by kernel_rfl
 f129 := Tryz.func174.trans (congrArg some (by kernel_rfl))
 f171 := Tryz.func50.trans (congrArg some (by kernel_rfl))
 f174 := Tryz.func125.trans (congrArg some (by kernel_rfl))
 f205 := Tryz.func207.trans (congrArg some (by kernel_rfl))
 f243 := Tryz.func73.trans (congrArg some (by kernel_rfl))
 f245 := Tryz.func149.trans (congrArg some (by kernel_rfl))
 f246 := Tryz.func108.trans (congrArg some (by kernel_rfl))
 f247 := Tryz.func156.trans (congrArg some (by kernel_rfl))
 f279 := Tryz.func178.trans (congrArg some (by kernel_rfl))
 f280 := Tryz.func179.trans (congrArg some (by kernel_rfl))
 f281 := Tryz.func180.trans (congrArg some (by kernel_rfl))
 f282 := Tryz.func181.trans (congrArg some (by kernel_rfl))
 f283 := Tryz.func144.trans (congrArg some (by kernel_rfl))
 f284 := Tryz.func145.trans (congrArg some (by kernel_rfl))
 f285 := Tryz.func146.trans (congrArg some (by kernel_rfl))
 f286 := Tryz.func147.trans (congrArg some (by kernel_rfl))
 f287 := Tryz.func187.trans (congrArg some (by kernel_rfl))
 f316 := Tryz.func157.trans (congrArg some (by kernel_rfl))
 f317 := Tryz.func173.trans (congrArg some (by kernel_rfl))
 f318 := Tryz.func175.trans (congrArg some (by kernel_rfl))
 f319 := Tryz.func176.trans (congrArg some (by kernel_rfl))
 f320 := Tryz.func177.trans (congrArg some (by kernel_rfl))
 f321 := Tryz.func213.trans (congrArg some (by kernel_rfl))
 f322 := Tryz.func214.trans (congrArg some (by kernel_rfl))
 f337 := Tryz.func205.trans (congrArg some (by kernel_rfl))
 f338 := Tryz.func206.trans (congrArg some (by kernel_rfl))
 t0 := Tryz.underlying0
 a0 := Tryz.isAgg0
 z0 := Tryz.sizeOf0
 v0 := Tryz.zeroValue0
 t2 := Tryz.underlying2
 a2 := Tryz.isAgg2
 z2 := Tryz.sizeOf2
 v2 := Tryz.zeroValue2
 t3 := Tryz.underlying3
 a3 := Tryz.isAgg3
 z3 := Tryz.sizeOf3
 v3 := Tryz.zeroValue3
 t4 := Tryz.underlying4
 a4 := Tryz.isAgg4
 z4 := Tryz.sizeOf4
 v4 := Tryz.zeroValue4
 t5 := Tryz.underlying5
 a5 := Tryz.isAgg5
 z5 := Tryz.sizeOf5
 v5 := Tryz.zeroValue5
 t9 := Tryz.underlying9
 a9 := Tryz.isAgg9
 z9 := Tryz.sizeOf9
 v9 := Tryz.zeroValue9
 t20 := Tryz.underlying20
 a20 := Tryz.isAgg20
 z20 := Tryz.sizeOf20
 v20 := Tryz.zeroValue20
 t21 := Tryz.underlying21
 a21 := Tryz.isAgg21
 z21 := Tryz.sizeOf21
 v21 := Tryz.zeroValue21
 t37 := Tryz.underlying168
 a37 := Tryz.isAgg168
 z37 := Tryz.sizeOf168
 v37 := Tryz.zeroValue168
 t46 := Tryz.underlying267
 a46 := Tryz.isAgg267
 z46 := Tryz.sizeOf267
 v46 := Tryz.zeroValue267
 t51 := Tryz.underlying265
 a51 := Tryz.isAgg265
 z51 := Tryz.sizeOf265
 v51 := Tryz.zeroValue265
 t53 := Tryz.underlying187
 a53 := Tryz.isAgg187
 z53 := Tryz.sizeOf187
 v53 := Tryz.zeroValue187
 t75 := Tryz.underlying189
 a75 := Tryz.isAgg189
 z75 := Tryz.sizeOf189
 v75 := Tryz.zeroValue189
 t85 := Tryz.underlying205
 a85 := Tryz.isAgg205
 z85 := Tryz.sizeOf205
 v85 := Tryz.zeroValue205
 t127 := Tryz.underlying214
 a127 := Tryz.isAgg214
 z127 := Tryz.sizeOf214
 v127 := Tryz.zeroValue214
 t143 := Tryz.underlying319
 a143 := Tryz.isAgg319
 z143 := Tryz.sizeOf319
 v143 := Tryz.zeroValue319
 t145 := Tryz.underlying321
 a145 := Tryz.isAgg321
 z145 := Tryz.sizeOf321
 v145 := Tryz.zeroValue321
 t167 := Tryz.underlying269
 a167 := Tryz.isAgg269
 z167 := Tryz.sizeOf269
 v167 := Tryz.zeroValue269
 t168 := Tryz.underlying270
 a168 := Tryz.isAgg270
 z168 := Tryz.sizeOf270
 v168 := Tryz.zeroValue270
 t171 := Tryz.underlying232
 a171 := Tryz.isAgg232
 z171 := Tryz.sizeOf232
 v171 := Tryz.zeroValue232
 t173 := Tryz.underlying235
 a173 := Tryz.isAgg235
 z173 := Tryz.sizeOf235
 v173 := Tryz.zeroValue235
 t175 := Tryz.underlying277
 a175 := Tryz.isAgg277
 z175 := Tryz.sizeOf277
 v175 := Tryz.zeroValue277
 t210 := Tryz.underlying297
 a210 := Tryz.isAgg297
 z210 := Tryz.sizeOf297
 v210 := Tryz.zeroValue297
 t212 := Tryz.underlying264
 a212 := Tryz.isAgg264
 z212 := Tryz.sizeOf264
 v212 := Tryz.zeroValue264
 t213 := Tryz.underlying266
 a213 := Tryz.isAgg266
 z213 := Tryz.sizeOf266
 t232 := Tryz.underlying317
 a232 := Tryz.isAgg317
 z232 := Tryz.sizeOf317
 v232 := Tryz.zeroValue317
 t233 := Tryz.underlying318
 a233 := Tryz.isAgg318
 z233 := Tryz.sizeOf318
 v233 := Tryz.zeroValue318
 g15 := by kernel_rfl
 g16 := by kernel_rfl
 g17 := by kernel_rfl
 g18 := by kernel_rfl
 g19 := by kernel_rfl
 t80 := Tryz.underlying92
 a80 := Tryz.isAgg92
 z80 := Tryz.sizeOf92
 v80 := Tryz.zeroValue92
 i0 := by kernel_rfl
 i2 := by kernel_rfl
 i3 := by kernel_rfl
 i4 := by kernel_rfl
 i5 := by kernel_rfl
 i9 := by kernel_rfl
 i20 := by kernel_rfl
 i21 := by kernel_rfl
 i37 := by kernel_rfl
 i46 := by kernel_rfl
 i51 := by kernel_rfl
 i53 := by kernel_rfl
 i75 := by kernel_rfl
 i80 := by kernel_rfl
 i85 := by kernel_rfl
 i127 := by kernel_rfl
 i143 := by kernel_rfl
 i145 := by kernel_rfl
 i167 := by kernel_rfl
 i168 := by kernel_rfl
 i171 := by kernel_rfl
 i173 := by kernel_rfl
 i175 := by kernel_rfl
 i210 := by kernel_rfl
 i212 := by kernel_rfl
 i232 := by kernel_rfl
 i233 := by kernel_rfl
 m15 := by kernel_rfl
 m16 := by kernel_rfl
 m17 := by kernel_rfl
 m18 := by kernel_rfl
 m19 := by kernel_rfl
 c0 := by kernel_rfl
 c2 := by kernel_rfl
 c3 := by kernel_rfl
 c4 := by kernel_rfl
 c5 := by kernel_rfl
 c9 := by kernel_rfl
 c20 := by kernel_rfl
 c21 := by kernel_rfl
 c37 := by kernel_rfl
 c46 := by kernel_rfl
 c51 := by kernel_rfl
 c53 := by kernel_rfl
 c75 := by kernel_rfl
 c80 := by kernel_rfl
 c85 := by kernel_rfl
 c127 := by kernel_rfl
 c143 := by kernel_rfl
 c145 := by kernel_rfl
 c167 := by kernel_rfl
 c168 := by kernel_rfl
 c171 := by kernel_rfl
 c173 := by kernel_rfl
 c175 := by kernel_rfl
 c210 := by kernel_rfl
 c212 := by kernel_rfl
 c213 := by kernel_rfl
 c232 := by kernel_rfl
 c233 := by kernel_rfl }
theorem Tryz.Builder_Extra_169 : Builder.Extra Tryz.prog Tryz.lays169_ren := {
 sizeBuilder := by kernel_rfl
 liesBuilder := by kernel_rfl
 t5 := Tryz.underlying5
 a5 := Tryz.isAgg5
 z5 := Tryz.sizeOf5
 v5 := Tryz.zeroValue5
 infoByte := by kernel_rfl
 cellsByte := by kernel_rfl
 sizeByte := by kernel_rfl
 neB5 := by decide }
open Go.RowKit in
theorem Tryz.Builder_String_any_k (B b : Nat) (l : List UInt8) (w : World) (h : Lib.IsBuilderF 170 5 B b (Lib.byteCells l) w) (hBw : B ≤ w.heap.size) :
  Calls Tryz.prog 96 #[.pointer (some ⟨b, 0, none⟩)] w fun e w' => e = .returned (.string ⟨l.toArray⟩) ∧ (Lib.IsBuilderF 170 5 B b (Lib.byteCells l) w' ∧ Below B w w' ∧ Lib.OthersKept 5 (some b) w w') := Any.Builder_String_any_k Tryz.lays169 Tryz.Builder_Extra_169 B b l w h hBw
open Go.RowKit Go.Sort Go.Lib in
theorem Tryz.strconv_Itoa_small (i : Nat) (hi : i < 100) (w : World) :
  Calls Tryz.prog 50 #[.int .i64 i] w fun e w' => e = .returned (.string ⟨(Lib.decDigits i).toArray⟩) ∧ w' = w := Any.strconv_Itoa_small Tryz.lays171 i hi w
open Go.RowKit Go.Sort Go.Lib in
theorem Tryz.strconv_FormatInt_10 (n : Int) (h0 : -9223372036854775808 ≤ n) (h1 : n ≤ 9223372036854775807) (w : World) (htab : Lib.TabIs Tryz.prog w "internal/strconv.uint64pow10" .u64 Lib.pow10Tab) :
  Calls Tryz.prog 132 #[.int .i64 n, .int .i64 10] w fun e w' => e = .returned (.string ⟨(Lib.itoa n).toArray⟩) ∧ ∃ k os, w' = grow (w.drewN k) os := Any.strconv_FormatInt_10 Tryz.laysM173 n h0 h1 w htab
open Go.RowKit in
theorem Tryz.strconv_ParseInt_10_at64_ok (s : ByteArray) (hmax : s.size ≤ 9223372036854775806) (v : Int) (h : Lib.parseIntB 64 s.data.toList = .ok v) (w : World) :
  Calls Tryz.prog 125 #[.string s, .int .i64 10, .int .i64 64] w fun e w' => e = .returned (.tuple #[.int .i64 v, .nilIface]) ∧ (w' = w ∨ ∃ t, w' = Lib.bytesWorld w 5 t) := Any.strconv_ParseInt_10_at64_ok Tryz.laysC174 s hmax v h w
open Go.RowKit in
theorem Tryz.strconv_ParseInt_10_at64_range_var (s : ByteArray) (hlim : s.size ≤ 281474976710656) (h : Lib.parseIntB 64 s.data.toList = .range) (tp : TypeId) (p : Value) (w : World) (hvar : w.var? Tryz.prog "strconv.ErrRange" = some #[.iface tp p]) :
  Calls Tryz.prog 125 #[.string s, .int .i64 10, .int .i64 64] w fun e w' => ∃ N, e = .returned (.tuple #[.int .i64 (Lib.intSat 64 s.data.toList), .iface 270 (.pointer (some ⟨N, 0, none⟩))]) ∧ w.heap.size ≤ N ∧ w'.heap[N]? = some (.cells #[.string ⟨#[80, 97, 114, 115, 101, 73, 110, 116]⟩, .string s, .iface tp p] 297 (0, 0)) ∧ Below w.heap.size w w' := Any.strconv_ParseInt_10_at64_range_var Tryz.laysC174 s hlim h tp p w hvar
def Tryz.lays166_ren : Go.Shelf.Ren := ⟨fun | 166 => 131 | 240 => 160 | 276 => 189 | n => n, fun | 37 => 168 | 70 => 167 | 72 => 170 | 75 => 189 | 80 => 92 | 164 => 279 | n => n, fun | n => n⟩
theorem Tryz.lays166 : Go.Proofs.Lays.n166 Tryz.prog Tryz.lays166_ren := {
 mixed := by kernel_rfl,
 f166 := Eq.trans Tryz.func131 (congrArg some (by kernel_rfl)),
 f240 := Eq.trans Tryz.func160 (congrArg some (by kernel_rfl)),
 f276 := Eq.trans Tryz.func189 (congrArg some (by kernel_rfl)),
 t0 := Tryz.underlying0,
 a0 := Tryz.isAgg0,
 z0 := Tryz.sizeOf0,
 v0 := Tryz.zeroValue0,
 t3 := Tryz.underlying3,
 a3 := Tryz.isAgg3,
 z3 := Tryz.sizeOf3,
 v3 := Tryz.zeroValue3,
 t4 := Tryz.underlying4,
 a4 := Tryz.isAgg4,
 z4 := Tryz.sizeOf4,
 v4 := Tryz.zeroValue4,
 t9 := Tryz.underlying9,
 a9 := Tryz.isAgg9,
 z9 := Tryz.sizeOf9,
 v9 := Tryz.zeroValue9,
 t20 := Tryz.underlying20,
 a20 := Tryz.isAgg20,
 z20 := Tryz.sizeOf20,
 v20 := Tryz.zeroValue20,
 t37 := Tryz.underlying168,
 a37 := Tryz.isAgg168,
 z37 := Tryz.sizeOf168,
 v37 := Tryz.zeroValue168,
 t70 := Tryz.underlying167,
 a70 := Tryz.isAgg167,
 z70 := Tryz.sizeOf167,
 v70 := Tryz.zeroValue167,
 t72 := Tryz.underlying170,
 a72 := Tryz.isAgg170,
 z72 := Tryz.sizeOf170,
 v72 := Tryz.zeroValue170,
 t75 := Tryz.underlying189,
 a75 := Tryz.isAgg189,
 z75 := Tryz.sizeOf189,
 v75 := Tryz.zeroValue189,
 t164 := Tryz.underlying279,
 a164 := Tryz.isAgg279,
 z164 := Tryz.sizeOf279,
 v164 := Tryz.zeroValue279 }
theorem Tryz.Builder_Extra_166 : Builder.Extra Tryz.prog Tryz.lays166_ren := {
 sizeBuilder := by kernel_rfl
 liesBuilder := by kernel_rfl
 t5 := Tryz.underlying5
 a5 := Tryz.isAgg5
 z5 := Tryz.sizeOf5
 v5 := Tryz.zeroValue5
 infoByte := by kernel_rfl
 cellsByte := by kernel_rfl
 sizeByte := by kernel_rfl
 neB5 := by decide }
open Go.RowKit in
theorem Tryz.Builder_WriteString_k (B b : Nat) (bs : List Value) (s : ByteArray) (w : World) (h : Lib.IsBuilderF 170 5 B b bs w) (hlen : bs.length + s.size ≤ 140737488355328) (hBw : B ≤ w.heap.size) :
  Calls Tryz.prog 131 #[.pointer (some ⟨b, 0, none⟩), .string s] w fun e w' => e = .returned (.tuple #[.int .i64 s.size, .nilIface]) ∧ (Lib.BuilderAtF 170 5 B b (.pointer (some ⟨b, 0, none⟩)) (bs ++ Lib.strCells s) w' ∧ Below B w w' ∧ Lib.OthersKept 5 (some b) w w') :=
 Any.Builder_WriteString_k Tryz.lays166 Tryz.Builder_Extra_166 B b bs s w h hlen hBw
def Tryz.laysM316_ren : Go.Shelf.Ren := ⟨fun | 316 => 157 | n => n, fun | 0 => 0 | 3 => 3 | 4 => 4 | 5 => 5 | 9 => 9 | 37 => 168 | 127 => 214 | n => n, fun | n => n⟩
theorem Tryz.laysM316 : Go.Proofs.LaysM.n316 Tryz.prog Tryz.laysM316_ren := {
 mixed := by kernel_rfl
 f316 := Tryz.func157.trans (congrArg some (by kernel_rfl))
 t0 := Tryz.underlying0
 a0 := Tryz.isAgg0
 z0 := Tryz.sizeOf0
 v0 := Tryz.zeroValue0
 t3 := Tryz.underlying3
 a3 := Tryz.isAgg3
 z3 := Tryz.sizeOf3
 v3 := Tryz.zeroValue3
 t4 := Tryz.underlying4
 a4 := Tryz.isAgg4
 z4 := Tryz.sizeOf4
 v4 := Tryz.zeroValue4
 t5 := Tryz.underlying5
 a5 := Tryz.isAgg5
 z5 := Tryz.sizeOf5
 v5 := Tryz.zeroValue5
 t9 := Tryz.underlying9
 a9 := Tryz.isAgg9
 z9 := Tryz.sizeOf9
 v9 := Tryz.zeroValue9
 t37 := Tryz.underlying168
 a37 := Tryz.isAgg168
 z37 := Tryz.sizeOf168
 v37 := Tryz.zeroValue168
 t127 := Tryz.underlying214
 a127 := Tryz.isAgg214
 z127 := Tryz.sizeOf214
 v127 := Tryz.zeroValue214
 i0 := by kernel_rfl
 i3 := by kernel_rfl
 i4 := by kernel_rfl
 i5 := by kernel_rfl
 i9 := by kernel_rfl
 i37 := by kernel_rfl
 i127 := by kernel_rfl
}
end Go.Proofs
namespace Go.Proofs.YtihgojcfpnhelaaGreatDoor
open Go.RowKit
attribute [local go_sem] idx_eq app_eq
def spellW : List By := [[], [], [], [105, 102], [32, 97, 110, 100, 32], [32, 111, 114, 32], [110, 111, 116, 32], [116, 114, 117, 101], [102, 97, 108, 115, 101], [40], [41], [44, 32], [32, 43, 32], [32, 45, 32], [45], [32, 42, 32], [32, 47, 32], [32, 37, 32], [32, 61, 32], [32, 60, 32]]
def aheadW : List Int := [0, 0, 0, 0, 0, 0, 3, 0, 0, 0, 0, 0, 0, 6, 0, 0, 0, 0, 0, 0]
def betwW : List Int := [0, 0, 0, 0, 2, 1, 0, 0, 0, 0, 0, 0, 4, 4, 0, 5, 5, 5, 3, 3]
def ahdW : List By := [[], [], [], [105, 102, 40], [], [], [110, 111, 116, 32], [116, 114, 117, 101], [102, 97, 108, 115, 101], [40], [], [], [], [], [45], [], [], [], [], []]
def btwW : List By := [[], [], [], [44, 32], [32, 97, 110, 100, 32], [32, 111, 114, 32], [], [], [], [], [], [], [32, 43, 32], [32, 45, 32], [], [32, 42, 32], [32, 47, 32], [32, 37, 32], [32, 61, 32], [32, 60, 32]]
def bhdW : List By := [[], [], [], [41], [], [], [], [], [], [41], [], [], [], [], [], [], [], [], [], []]
def ahd (k : Nat) : By := ahdW.getD k []
def btw (k : Nat) : By := btwW.getD k []
def bhd (k : Nat) : By := bhdW.getD k []
def spellC : Array Value := ((List.range 20).flatMap fun k => [Value.string ⟨(ahd k).toArray⟩, .string ⟨(btw k).toArray⟩, .string ⟨(bhd k).toArray⟩]).toArray
def meanC : Array Value := (meanW.flatMap fun x => [Value.string ⟨x.1.toArray⟩, .int .i64 x.2]).toArray
def aheadC : Array Value := (aheadW.map fun x => Value.int .i64 x).toArray
def betwC : Array Value := (betwW.map fun x => Value.int .i64 x).toArray
structure Env (w : World) : Prop where
 spell : ∃ t fr, w.heap[4]? = some (.cells spellC t fr)
 mean : ∃ t fr, w.heap[1]? = some (.cells meanC t fr)
 ahead : ∃ t fr, w.heap[2]? = some (.cells aheadC t fr)
 betw : ∃ t fr, w.heap[3]? = some (.cells betwC t fr)
 range : ∃ tp p, w.var? Tryz.prog "strconv.ErrRange" = some #[.iface tp p]
 pow : Lib.TabIs Tryz.prog w "internal/strconv.uint64pow10" .u64 Lib.pow10Tab
 size : 11 ≤ w.heap.size
theorem gRange : Tryz.prog.globalNamed "strconv.ErrRange" = some 8 := by kernel_rfl
theorem gPow : Tryz.prog.globalNamed "internal/strconv.uint64pow10" = some 5 := by kernel_rfl
theorem var_below {w w' : World} {B g : Nat} {nm : String} (hb : Below B w w') (hg : Tryz.prog.globalNamed nm = some g) (hB : g < B) : w'.var? Tryz.prog nm = w.var? Tryz.prog nm := by
 unfold World.var?
 rw [hg]
 simp only [Option.bind_some]
 rw [hb.block g hB]
theorem Env.below {w w' : World} {B : Nat} (h : Env w) (hb : Below B w w') (hB : 11 ≤ B) : Env w' := by
 refine ⟨?_, ?_, ?_, ?_, ?_, ?_, Nat.le_trans h.size hb.size⟩
 ·rw [hb.block 4 (by omega)]; exact h.spell
 ·rw [hb.block 1 (by omega)]; exact h.mean
 ·rw [hb.block 2 (by omega)]; exact h.ahead
 ·rw [hb.block 3 (by omega)]; exact h.betw
 ·rw [var_below hb gRange (by omega)]; exact h.range
 ·exact (var_below hb gPow (by omega)).trans h.pow
theorem Env.next {w w' : World} (h : Env w) (hb : Below w.heap.size w w') : Env w' := h.below hb h.size
theorem mean_idx (k : Nat) (h : k < 16) (w : World) : (Instr.index 208 (.agg meanC) (.int .i64 (k : Int))).run Tryz.prog w = .ok (.agg #[.string ⟨((meanW[k]'h).1).toArray⟩, .int .i64 (meanW[k]'h).2]) w := by
 rcases (show k = 0 ∨ k = 1 ∨ k = 2 ∨ k = 3 ∨ k = 4 ∨ k = 5 ∨ k = 6 ∨ k = 7 ∨ k = 8 ∨ k = 9 ∨ k = 10 ∨ k = 11 ∨ k = 12 ∨ k = 13 ∨ k = 14 ∨ k = 15 by omega) with h | h | h | h | h | h | h | h | h | h | h | h | h | h | h | h <;> subst h <;> kernel_rfl
theorem meanIn_at (l : List (By × Int)) (t : By) (k : Nat) (h : k < l.length) (h1 : ∀ j (hj : j < l.length), j < k → l[j].1 ≠ t) (h2 : l[k].1 = t) : meanIn l t = some l[k].2 := by
 induction l generalizing k with
 | nil => simp at h
 | cons x l ih =>
  obtain ⟨y, z⟩ := x
  cases k with
  | zero =>
   simp at h2
   simp [meanIn, h2]
  | succ k =>
   have h0 : y ≠ t := h1 0 (by simp) (by omega)
   simp only [meanIn, if_neg h0]
   have := ih k (by simpa using h) (fun j hj hjk => h1 (j + 1) (by simpa using hj) (by omega)) (by simpa using h2)
   simpa using this
theorem meanIn_none (l : List (By × Int)) (t : By) (h1 : ∀ j (hj : j < l.length), l[j].1 ≠ t) : meanIn l t = none := by
 induction l with
 | nil => rfl
 | cons x l ih =>
  obtain ⟨y, z⟩ := x
  have h0 : y ≠ t := h1 0 (by simp)
  simp only [meanIn, if_neg h0]
  exact ih fun j hj => h1 (j + 1) (by simpa using hj)
theorem meaning28 (t : By) (w : World) (hE : Env w) :
  Calls Tryz.prog 92 #[.string ⟨t.toArray⟩] w fun e w' => e = .returned (.tuple #[.int .i64 ((meanB t).getD 0), .bool (meanB t).isSome]) ∧ Below w.heap.size w w' := by
 obtain ⟨tt, fr, hm⟩ := hE.mean
 have HM := tZ hm
 clear hm hE
 go_enter Tryz.func92, Tryz.ntmps92
 go_wp2_with (refine wpList_load_row rfl 208 _ rfl 1 rfl tt _ fr _ HM.out Tryz.underlying208 rfl (by kernel_rfl) ?_)
 go_loopw [7] (fun i wr => ∃ k : Nat, k ≤ 16 ∧ i = .int .i64 (k : Int) ∧ Below w.heap.size w wr ∧ Hid (∀ j (hj : j < 16), j < k → (meanW[j]'hj).1 ≠ t)) (fun i _ => 16 - (intOf i).toNat)
 case atStart => exact ⟨0, by omega, rfl, Below.refl _ _, fun _ _ h => by omega⟩
 case round =>
  obtain ⟨k, hk, rfl, hb, HN⟩ := hrel
  have hsz := hb.size
  by_cases hlt : k < 16
  ·have hix := mean_idx k hlt
   by_cases he : (meanW[k]'hlt).1 = t
   ·have heb : ((meanW[k]'hlt).1 == t) = true := by simp [he]
    have HR := tZ (show meanB t = some (meanW[k]'hlt).2 from meanIn_at meanW t k hlt (fun j hj hjk => HN.out j hj hjk) he)
    clear he
    generalize (meanW[k]'hlt).1 = x at *
    generalize (meanW[k]'hlt).2 = z at *
    go_wp2
    go_ret2
    exact ⟨by rw [HR.out]; rfl, hb.alloc hsz _⟩
   ·have heb : ((meanW[k]'hlt).1 == t) = false := beq_eq_false_iff_ne.2 he
    have HN2 := tZ (show ∀ j (hj : j < 16), j < k + 1 → (meanW[j]'hj).1 ≠ t from fun j hj hjk => by
     rcases Nat.lt_or_ge j k with h1 | h1
     ·exact HN.out j hj h1
     ·obtain rfl : j = k := by omega
      exact he)
    clear he
    generalize (meanW[k]'hlt).1 = x at *
    generalize (meanW[k]'hlt).2 = z at *
    go_wp2
    go_roundw
    case rel => exact ⟨k + 1, by omega, by go_num, hb.alloc hsz _, HN2⟩
    case measure => simp [intOf]; omega
  ·go_wp2
   go_ret2
   have HR : meanB t = none := meanIn_none meanW t fun j hj => HN.out j hj (by have : j < 16 := hj; omega)
   exact ⟨by rw [HR]; rfl, hb⟩
end Go.Proofs.YtihgojcfpnhelaaGreatDoor
namespace Go.Proofs.YtihgojcfpnhelaaGreatDoor
open Go.RowKit
def AllD (l : By) : Prop := ∀ x, x ∈ l → isD x = true
def stepD (n : Nat) (c : UInt8) : Nat := 10 * n + (c.toNat - 48)
theorem valD_eq (l : By) : valD l = l.foldl stepD 0 := rfl
theorem fold_ge (l : By) (a : Nat) : a ≤ l.foldl stepD a := by
 induction l generalizing a with
 | nil => simp
 | cons c l ih =>
  rw [List.foldl_cons]
  exact Nat.le_trans (by unfold stepD; omega) (ih (stepD a c))
theorem parseM (l : By) (a M : Nat) (hM : M = 18446744073709551615) (hD : AllD l) (ha : a ≤ M) :
  Lib.parseUintM M a l = if l.foldl stepD a ≤ M then .ok (l.foldl stepD a) else .range := by
 induction l generalizing a with
 | nil => simp [Lib.parseUintM, ha]
 | cons c l ih =>
  have hc := isD_range (hD c (by simp))
  have hl : AllD l := fun x hx => hD x (by simp [hx])
  rw [List.foldl_cons]
  unfold Lib.parseUintM
  rw [if_pos hc]
  have hs : stepD a c = a * 10 + (c.toNat - 48) := by unfold stepD; omega
  have hge := fold_ge l (stepD a c)
  by_cases h1 : 1844674407370955162 ≤ a
  ·rw [if_pos h1, if_neg (by omega)]
  ·rw [if_neg h1]
   by_cases h2 : M < a * 10 + (c.toNat - 48)
   ·rw [if_pos h2, if_neg (by omega)]
   ·rw [if_neg h2, ← hs]
    exact ih _ hl (by omega)
theorem parse64 (c : UInt8) (r : By) (hD : AllD (c :: r)) :
  Lib.parseIntB 64 (c :: r) = if valD (c :: r) ≤ top63 then .ok (valD (c :: r) : Int) else .range := by
 have hc := isD_range (hD c (by simp))
 rw [Lib.parseIntB_plain 64 c r (by omega) (by omega)]
 unfold Lib.parseUintB
 rw [if_neg (by simp), parseM (c :: r) 0 (2 ^ 64 - 1) (by decide +kernel) hD (by omega), ← valD_eq]
 have e1 : (2 : Nat) ^ 64 - 1 = 18446744073709551615 := by decide +kernel
 have e2 : (2 : Nat) ^ (64 - 1) = 9223372036854775808 := by decide +kernel
 rw [e1, e2]
 unfold top63
 by_cases h : valD (c :: r) ≤ 18446744073709551615
 ·rw [if_pos h]
  unfold Lib.signlessC
  by_cases h2 : 9223372036854775808 ≤ valD (c :: r)
  ·simp only [if_pos h2]
   rw [if_neg (by omega)]
  ·simp only [if_neg h2]
   rw [if_pos (by omega)]
 ·rw [if_neg h, if_neg (by omega)]
  rfl
theorem digit_back {c : UInt8} (h : isD c = true) : UInt8.ofNat (48 + (c.toNat - 48)) = c := by
 have := isD_range h
 rw [show 48 + (c.toNat - 48) = c.toNat by omega]
 simp
theorem fold_snoc (l : By) (x : UInt8) (a : Nat) : (l ++ [x]).foldl stepD a = 10 * l.foldl stepD a + (x.toNat - 48) := by
 simp [stepD]
theorem dec_plain (n : Nat) : ∀ (c : UInt8) (r : By), r.length = n → AllD (c :: r) → c ≠ 48 → Lib.decDigits (valD (c :: r)) = c :: r := by
 induction n with
 | zero =>
  intro c r hr hD hc
  obtain rfl := List.length_eq_zero_iff.1 hr
  have h := isD_range (hD c (by simp))
  rw [valD_eq]
  show Lib.decDigits (stepD 0 c) = [c]
  rw [Lib.decDigits_one (by unfold stepD; omega), show stepD 0 c = c.toNat - 48 by unfold stepD; omega, digit_back (hD c (by simp))]
 | succ n ih =>
  intro c r hr hD hc
  have hne : r ≠ [] := by intro h; rw [h] at hr; simp at hr
  obtain ⟨r', x, rfl⟩ : ∃ r' x, r = r' ++ [x] := ⟨r.dropLast, r.getLast hne, (List.dropLast_concat_getLast hne).symm⟩
  have hr' : r'.length = n := by simpa using hr
  have hD' : AllD (c :: r') := fun y hy => hD y (by simp at hy ⊢; rcases hy with h | h <;> simp [h])
  have hx := hD x (by simp)
  have hxr := isD_range hx
  have ihh := ih c r' hr' hD' hc
  have hval : valD (c :: (r' ++ [x])) = 10 * valD (c :: r') + (x.toNat - 48) := by
   rw [valD_eq, valD_eq, ← List.cons_append, fold_snoc]
  have hpos : 1 ≤ valD (c :: r') := by
   rw [valD_eq, List.foldl_cons]
   refine Nat.le_trans ?_ (fold_ge r' (stepD 0 c))
   have hc2 := isD_range (hD c (by simp))
   have : c.toNat ≠ 48 := by
    intro h
    apply hc
    apply UInt8.toNat_inj.1
    simpa using h
   unfold stepD
   omega
  rw [hval, Lib.decDigits, dif_neg (by omega), show (10 * valD (c :: r') + (x.toNat - 48)) / 10 = valD (c :: r') by omega, show (10 * valD (c :: r') + (x.toNat - 48)) % 10 = x.toNat - 48 by omega, ihh, digit_back hx]
  rfl
theorem dec_short (l : By) (hne : l ≠ []) (hD : AllD l) : Lib.decDigits (valD l) = shortB l := by
 induction l with
 | nil => exact absurd rfl hne
 | cons c r ih =>
  match r, ih, hD with
  | [], _, hD =>
   have h := isD_range (hD c (by simp))
   show Lib.decDigits (stepD 0 c) = [c]
   rw [Lib.decDigits_one (by unfold stepD; omega), show stepD 0 c = c.toNat - 48 by unfold stepD; omega, digit_back (hD c (by simp))]
  | d :: r, ih, hD =>
   by_cases hc : c = 48
   ·subst hc
    have hv : valD (48 :: d :: r) = valD (d :: r) := rfl
    have hs : shortB (48 :: d :: r) = shortB (d :: r) := by
     have := hD d (by simp)
     simp [shortB, this]
    rw [hv, hs]
    exact ih (by simp) fun x hx => hD x (by simp at hx ⊢; rcases hx with h | h <;> simp [h])
   ·have hs : shortB (c :: d :: r) = c :: d :: r := by simp [shortB, hc]
    rw [hs]
    exact dec_plain _ c (d :: r) rfl hD hc
theorem parse_ok (c : UInt8) (r : By) (w : World) (hl : r.length ≤ 1000) (hD : AllD (c :: r)) (hv : valD (c :: r) ≤ top63) :
  Calls Tryz.prog 125 #[.string ⟨(c :: r).toArray⟩, .int .i64 10, .int .i64 64] w fun e w' => e = .returned (.tuple #[.int .i64 (valD (c :: r) : Int), .nilIface]) ∧ Below w.heap.size w w' :=
 (Tryz.strconv_ParseInt_10_at64_ok ⟨(c :: r).toArray⟩ (by show (c :: r).length ≤ 9223372036854775806; simp; omega) (valD (c :: r) : Int) ((parse64 c r hD).trans (if_pos hv)) w).mono fun e w' h => ⟨h.1, by
  rcases h.2 with rfl | ⟨t, rfl⟩
  ·exact Below.refl _ _
  ·exact Lib.bytesWorld_below _ _ _⟩
theorem parse_range (c : UInt8) (r : By) (w : World) (hE : Env w) (hl : r.length ≤ 1000) (hD : AllD (c :: r)) (hv : ¬ valD (c :: r) ≤ top63) :
  Calls Tryz.prog 125 #[.string ⟨(c :: r).toArray⟩, .int .i64 10, .int .i64 64] w fun e w' => ∃ z N, e = .returned (.tuple #[.int .i64 z, .iface 270 (.pointer (some ⟨N, 0, none⟩))]) ∧ Below w.heap.size w w' := by
 obtain ⟨tp, p, hvar⟩ := hE.range
 exact (Tryz.strconv_ParseInt_10_at64_range_var ⟨(c :: r).toArray⟩ (by show (c :: r).length ≤ 281474976710656; simp; omega) ((parse64 c r hD).trans (if_neg hv)) tp p w hvar).mono fun e w' h => by
  obtain ⟨N, he, _, _, hb⟩ := h
  exact ⟨_, N, he, hb⟩
theorem below_growN (w : World) (k : Nat) (os : Array Obj) : Below w.heap.size w (Sort.grow (w.drewN k) os) := by
 refine ⟨rfl, rfl, rfl, ?_, fun j hj => ?_⟩
 ·show w.heap.size ≤ (w.heap ++ os).size
  simp
 ·show (w.heap ++ os)[j]? = w.heap[j]?
  rw [Array.getElem?_append_left hj]
theorem format41 (n : Nat) (w : World) (hE : Env w) (hn : n ≤ top63) :
  Calls Tryz.prog 132 #[.int .i64 (n : Int), .int .i64 10] w fun e w' => e = .returned (.string ⟨(Lib.decDigits n).toArray⟩) ∧ Below w.heap.size w w' :=
 (Tryz.strconv_FormatInt_10 (n : Int) (by omega) (by unfold top63 at hn; omega) w hE.pow).mono fun e w' h => by
  obtain ⟨he, k, os, rfl⟩ := h
  rw [Lib.itoa_nonneg] at he
  exact ⟨he, below_growN w k os⟩
theorem bcell {W w1 : World} (hb : Below W.heap.size W w1) : (∀ b o, b < W.heap.size → w1.cell? ⟨b, o, none⟩ = W.cell? ⟨b, o, none⟩) ∧ (∀ b o, b < W.heap.size → w1.frozen? ⟨b, o, none⟩ = W.frozen? ⟨b, o, none⟩) :=
 ⟨fun b o h => hb.cell (p := ⟨b, o, none⟩) h, fun b o h => hb.frozen (p := ⟨b, o, none⟩) h⟩
def TkPost (w : World) (k : Int) (x : By) (nn : Int) (ok : Bool) (e : Ending) (w' : World) : Prop :=
 e = .returned (.tuple #[.agg #[.int .i64 k, .int .i64 0, .string ⟨x.toArray⟩, .int .i64 nn], .bool ok]) ∧ Below w.heap.size w w'
theorem number_range (c : UInt8) (r : By) (w : World) (hE : Env w) (hl : r.length ≤ 1000) (hD : AllD (c :: r)) (hv : ¬ valD (c :: r) ≤ top63) :
  Calls Tryz.prog 90 #[.string ⟨(c :: r).toArray⟩] w (TkPost w 0 [] 0 false) := by
 have HD := tZ hD
 have HV := tZ hv
 have HE := tZ hE
 clear hD hv hE
 go_enter Tryz.func90, Tryz.ntmps90
 go_wp2_with (first | (go_at_call 125; refine (parse_range c r _ (HE.out.next (bZ _)) hl HD.out HV.out).mono ?_; rintro e w1 ⟨z, N, rfl, hb1⟩; refine Hid.out ?_))
 refine tZ ?_
 obtain ⟨hc, hf⟩ := bcell hb1
 have hz : w.heap.size < w1.heap.size := by have := hb1.size; simp at this; omega
 go_wp2
 exact bodyPost_ret (v := .tuple #[.agg #[.int .i64 0, .int .i64 0, .string ⟨#[]⟩, .int .i64 0], .bool false]) (by simp [results, Tryz.results90, go_sem, hc]) rfl ⟨rfl, (((((bZ _).trans (hb1.mono (by simp))).setCell (Nat.le_refl _) _).setCell (Nat.le_refl _) _).setCell (Nat.le_refl _) _).setCell (Nat.le_refl _) _⟩
theorem number_long (c : UInt8) (r : By) (w : World) (hl : r.length ≤ 1000) (hD : AllD (c :: r)) (hv : valD (c :: r) ≤ top63) (hlen : 19 < r.length + 1) :
  Calls Tryz.prog 90 #[.string ⟨(c :: r).toArray⟩] w (TkPost w 0 [] 0 false) := by
 have HD := tZ hD
 have HV := tZ hv
 clear hD hv
 go_enter Tryz.func90, Tryz.ntmps90
 go_wp2_with (first | (go_at_call 125; refine (parse_ok c r _ hl HD.out HV.out).mono ?_; rintro e w1 ⟨rfl, hb1⟩; refine Hid.out ?_))
 refine tZ ?_
 obtain ⟨hc, hf⟩ := bcell hb1
 have hz : w.heap.size < w1.heap.size := by have := hb1.size; simp at this; omega
 go_wp2
 exact bodyPost_ret (v := .tuple #[.agg #[.int .i64 0, .int .i64 0, .string ⟨#[]⟩, .int .i64 0], .bool false]) (by simp [results, Tryz.results90, go_sem, hc]) rfl ⟨rfl, (((((bZ _).trans (hb1.mono (by simp))).setCell (Nat.le_refl _) _).setCell (Nat.le_refl _) _).setCell (Nat.le_refl _) _).setCell (Nat.le_refl _) _⟩
theorem number_ok (c : UInt8) (r : By) (w : World) (hl : r.length ≤ 1000) (hD : AllD (c :: r)) (hv : valD (c :: r) ≤ top63) (hlen : ¬ 19 < r.length + 1) :
  Calls Tryz.prog 90 #[.string ⟨(c :: r).toArray⟩] w (TkPost w 1 [] (valD (c :: r) : Int) true) := by
 have HD := tZ hD
 have HV := tZ hv
 clear hD hv
 generalize hV : valD (c :: r) = V at *
 have HVV := tZ hV
 clear hV
 go_enter Tryz.func90, Tryz.ntmps90
 go_wp2_with (first | (go_at_call 125; refine (parse_ok c r _ hl HD.out (HVV.out ▸ HV.out)).mono ?_; rw [HVV.out]; rintro e w1 ⟨rfl, hb1⟩; refine Hid.out ?_))
 refine tZ ?_
 obtain ⟨hc, hf⟩ := bcell hb1
 have hz : w.heap.size < w1.heap.size := by have := hb1.size; simp at this; omega
 go_wp2
 exact bodyPost_ret (v := .tuple #[.agg #[.int .i64 1, .int .i64 0, .string ⟨#[]⟩, .int .i64 (V : Int)], .bool true]) (by simp [results, Tryz.results90, go_sem, hc]) rfl ⟨rfl, (((((bZ _).trans (hb1.mono (by simp))).setCell (Nat.le_refl _) _).setCell (Nat.le_refl _) _).setCell (Nat.le_refl _) _).setCell (Nat.le_refl _) _⟩
end Go.Proofs.YtihgojcfpnhelaaGreatDoor
namespace Go.Proofs.YtihgojcfpnhelaaGreatDoor
open Go.RowKit
attribute [local go_sem] idx_eq app_eq
theorem word_long (c : UInt8) (r : By) (w : World) (hl : r.length ≤ 1000) (hlen : 6 < r.length + 1) :
  Calls Tryz.prog 91 #[.string ⟨(c :: r).toArray⟩] w (TkPost w 0 [] 0 false) := by
 go_enter Tryz.func91, Tryz.ntmps91
 go_wp2
 exact bodyPost_ret (v := .tuple #[.agg #[.int .i64 0, .int .i64 0, .string ⟨#[]⟩, .int .i64 0], .bool false]) (by simp [results, Tryz.results91, go_sem]) rfl ⟨rfl, (Below.refl _ _).alloc (Nat.le_refl _) _⟩
theorem word_mean (c : UInt8) (r : By) (w : World) (hE : Env w) (hl : ¬ 6 < r.length + 1) (k : Int) (hm : meanB (c :: r) = some k) :
  Calls Tryz.prog 91 #[.string ⟨(c :: r).toArray⟩] w (TkPost w k [] 0 true) := by
 have HE := tZ hE
 have HM := tZ hm
 clear hE hm
 go_enter Tryz.func91, Tryz.ntmps91
 go_wp2_with (first | (go_at_call 92; refine (meaning28 (c :: r) _ (HE.out.next (bZ _))).mono ?_; rw [HM.out]; rintro e w1 ⟨rfl, hb1⟩; refine Hid.out ?_))
 refine tZ ?_
 obtain ⟨hc, hf⟩ := bcell hb1
 have hz : w.heap.size < w1.heap.size := by have := hb1.size; simp at this; omega
 go_wp2
 exact bodyPost_ret (v := .tuple #[.agg #[.int .i64 k, .int .i64 0, .string ⟨#[]⟩, .int .i64 0], .bool true]) (by simp [results, Tryz.results91, go_sem, hc]) rfl ⟨rfl, (((((bZ _).trans (hb1.mono (by simp))).setCell (Nat.le_refl _) _).setCell (Nat.le_refl _) _).setCell (Nat.le_refl _) _).setCell (Nat.le_refl _) _⟩
theorem clone42 (s : By) (w : World) (hl : s.length ≤ 1000) :
  Calls Tryz.prog 126 #[.string ⟨s.toArray⟩] w fun e w' => e = .returned (.string ⟨s.toArray⟩) ∧ Below w.heap.size w w' := by
 have H := tZ (fun w => Go.Proofs.Any.stringslite_Clone Tryz.laysM316 ⟨s.toArray⟩ w (by show s.length ≤ 281474976710656; omega))
 go_enter Tryz.func126, Tryz.ntmps126
 go_wp2_with (first | (go_at_call 157; refine (H.out _).mono ?_; rintro e w1 ⟨rfl, hb1⟩))
 go_ret
 exact ⟨rfl, hb1⟩
theorem word_name (c : UInt8) (r : By) (w : World) (hE : Env w) (hl : ¬ 6 < r.length + 1) (hm : meanB (c :: r) = none) :
  Calls Tryz.prog 91 #[.string ⟨(c :: r).toArray⟩] w (TkPost w 2 (c :: r) 0 true) := by
 have HE := tZ hE
 have HM := tZ hm
 have HL := tZ (show (c :: r).length ≤ 1000 by simp; omega)
 clear hE hm
 go_enter Tryz.func91, Tryz.ntmps91
 go_wp2_with (first | (go_at_call 92; refine (meaning28 (c :: r) _ (HE.out.next (bZ _))).mono ?_; rw [HM.out]; rintro e w1 ⟨rfl, hb1⟩; refine Hid.out ?_))
 refine tZ ?_
 go_wp2_with (first | (go_at_call 126; refine (clone42 (c :: r) _ HL.out).mono ?_; rintro e w2 ⟨rfl, hb2⟩; refine Hid.out ?_))
 refine tZ ?_
 have hb12 := hb1.trans (hb2.mono hb1.size)
 obtain ⟨hc, hf⟩ := bcell hb12
 have hz : w.heap.size < w2.heap.size := by have := hb12.size; simp at this; omega
 go_wp2
 exact bodyPost_ret (v := .tuple #[.agg #[.int .i64 2, .int .i64 0, .string ⟨(c :: r).toArray⟩, .int .i64 0], .bool true]) (by simp [results, Tryz.results91, go_sem, hc]) rfl ⟨rfl, (((((bZ _).trans (hb12.mono (by simp))).setCell (Nat.le_refl _) _).setCell (Nat.le_refl _) _).setCell (Nat.le_refl _) _).setCell (Nat.le_refl _) _⟩
def nmB (t : By) : By := if headD t then [] else textB t
def nuB (t : By) : Nat := if headD t then valD t else 0
def tokP (row : By) : Int × By × Nat × Bool := if tokOK row then (kindB row, nmB row, nuB row, true) else (0, [], 0, false)
theorem sign_mean (c : UInt8) (r : By) (hL : isL c = false) : (meanB (c :: r)).isSome = inB (c :: r) signW := by
 by_cases h : inB (c :: r) signW = true
 ·rw [h]
  simp only [inB, signW, List.contains_iff_mem, List.mem_cons, List.not_mem_nil, or_false] at h
  rcases h with h | h | h | h | h | h | h | h | h | h <;> rw [h] <;> decide
 ·have h' : inB (c :: r) signW = false := by simpa using h
  rw [h']
  have : meanB (c :: r) = none := by
   apply meanIn_none
   intro j hj he
   have hmem : (meanW[j]) ∈ meanW := List.getElem_mem hj
   have key : ∀ x, x ∈ meanW → x.1 = c :: r → False := by
    intro x hx hxe
    simp only [meanW, List.mem_cons, List.not_mem_nil, or_false] at hx
    have hcl : ∀ d s, d :: s = c :: r → isL d = true → False := by
     intro d s h1 h2
     simp at h1
     rw [h1.1, hL] at h2
     cases h2
    have hcs : ∀ s, s = c :: r → s ∈ signW → False := by
     intro s h1 h2
     apply h
     rw [← h1]
     simpa [inB] using h2
    rcases hx with rfl | rfl | rfl | rfl | rfl | rfl | rfl | rfl | rfl | rfl | rfl | rfl | rfl | rfl | rfl | rfl
    ·exact hcl _ _ hxe (by decide)
    ·exact hcl _ _ hxe (by decide)
    ·exact hcl _ _ hxe (by decide)
    ·exact hcl _ _ hxe (by decide)
    ·exact hcl _ _ hxe (by decide)
    ·exact hcl _ _ hxe (by decide)
    all_goals exact hcs _ hxe (by decide)
   exact key _ hmem he
  rw [this]
  rfl
theorem from_D (c : UInt8) (r : By) (w : World) (k : Int) (x : By) (nn : Int) (ok : Bool) (hD : isD c = true) (hN : ∀ w', Below w.heap.size w w' → Calls Tryz.prog 90 #[.string ⟨(c :: r).toArray⟩] w' (TkPost w' k x nn ok)) :
  Calls Tryz.prog 60 #[.string ⟨(c :: r).toArray⟩] w (TkPost w k x nn ok) := by
 have hD' : digB (c.toNat : Int) = true := hD
 have HN := tZ hN
 clear hN hD
 go_enter Tryz.func60, Tryz.ntmps60
 go_wp2_with (first | (go_at_call 87; refine (isDigit23 (c.toNat : Int) _).mono ?_; rintro e w' ⟨rfl, rfl⟩) | (go_at_call 90; refine (HN.out _ (bZ _)).mono ?_; rintro e w1 ⟨rfl, hb1⟩; refine Hid.out ?_))
 refine tZ ?_
 obtain ⟨hc, hf⟩ := bcell hb1
 have hz : w.heap.size < w1.heap.size := by have := hb1.size; simp at this; omega
 go_wp2
 exact bodyPost_ret (v := .tuple #[.agg #[.int .i64 k, .int .i64 0, .string ⟨x.toArray⟩, .int .i64 nn], .bool ok]) (by simp [results, Tryz.results60, go_sem, hc]) rfl ⟨rfl, (((((bZ _).trans (hb1.mono (by simp))).setCell (Nat.le_refl _) _).setCell (Nat.le_refl _) _).setCell (Nat.le_refl _) _).setCell (Nat.le_refl _) _⟩
theorem from_L (c : UInt8) (r : By) (w : World) (k : Int) (x : By) (nn : Int) (ok : Bool) (hD : isD c = false) (hL : isL c = true) (hN : ∀ w', Below w.heap.size w w' → Calls Tryz.prog 91 #[.string ⟨(c :: r).toArray⟩] w' (TkPost w' k x nn ok)) :
  Calls Tryz.prog 60 #[.string ⟨(c :: r).toArray⟩] w (TkPost w k x nn ok) := by
 have hD' : digB (c.toNat : Int) = false := hD
 have hL' : letB (c.toNat : Int) = true := hL
 have HN := tZ hN
 clear hN hD hL
 go_enter Tryz.func60, Tryz.ntmps60
 go_wp2_with (first | (go_at_call 87; refine (isDigit23 (c.toNat : Int) _).mono ?_; rintro e w' ⟨rfl, rfl⟩) | (go_at_call 88; refine (isLetter24 (c.toNat : Int) _).mono ?_; rintro e w' ⟨rfl, rfl⟩) | (go_at_call 91; refine (HN.out _ (bZ _)).mono ?_; rintro e w1 ⟨rfl, hb1⟩; refine Hid.out ?_))
 refine tZ ?_
 obtain ⟨hc, hf⟩ := bcell hb1
 have hz : w.heap.size < w1.heap.size := by have := hb1.size; simp at this; omega
 go_wp2
 exact bodyPost_ret (v := .tuple #[.agg #[.int .i64 k, .int .i64 0, .string ⟨x.toArray⟩, .int .i64 nn], .bool ok]) (by simp [results, Tryz.results60, go_sem, hc]) rfl ⟨rfl, (((((bZ _).trans (hb1.mono (by simp))).setCell (Nat.le_refl _) _).setCell (Nat.le_refl _) _).setCell (Nat.le_refl _) _).setCell (Nat.le_refl _) _⟩
theorem from_N (c : UInt8) (r : By) (w : World) (hE : Env w) (hD : isD c = false) (hL : isL c = false) :
  Calls Tryz.prog 60 #[.string ⟨(c :: r).toArray⟩] w (TkPost w ((meanB (c :: r)).getD 0) [] 0 (meanB (c :: r)).isSome) := by
 have hD' : digB (c.toNat : Int) = false := hD
 have hL' : letB (c.toNat : Int) = false := hL
 have HE := tZ hE
 clear hE hD hL
 generalize hk : (meanB (c :: r)).getD 0 = k
 generalize hb : (meanB (c :: r)).isSome = b
 have HK := tZ hk
 have HB := tZ hb
 clear hk hb
 go_enter Tryz.func60, Tryz.ntmps60
 go_wp2_with (first | (go_at_call 87; refine (isDigit23 (c.toNat : Int) _).mono ?_; rintro e w' ⟨rfl, rfl⟩) | (go_at_call 88; refine (isLetter24 (c.toNat : Int) _).mono ?_; rintro e w' ⟨rfl, rfl⟩) | (go_at_call 92; refine (meaning28 (c :: r) _ (HE.out.next (bZ _))).mono ?_; rw [HK.out, HB.out]; rintro e w1 ⟨rfl, hb1⟩; refine Hid.out ?_))
 refine tZ ?_
 obtain ⟨hc, hf⟩ := bcell hb1
 have hz : w.heap.size < w1.heap.size := by have := hb1.size; simp at this; omega
 go_wp2
 exact bodyPost_ret (v := .tuple #[.agg #[.int .i64 k, .int .i64 0, .string ⟨#[]⟩, .int .i64 0], .bool b]) (by simp [results, Tryz.results60, go_sem, hc]) rfl ⟨rfl, (((((bZ _).trans (hb1.mono (by simp))).setCell (Nat.le_refl _) _).setCell (Nat.le_refl _) _).setCell (Nat.le_refl _) _).setCell (Nat.le_refl _) _⟩
theorem nmB_no (c : UInt8) (r : By) (h : isD c = false) : nmB (c :: r) = textB (c :: r) ∧ nuB (c :: r) = 0 := by
 have hh : headD (c :: r) = false := h
 unfold nmB nuB
 rw [hh]
 exact ⟨rfl, rfl⟩
theorem fromRow13 (c : UInt8) (r : By) (w : World) (hE : Env w) (hl : r.length ≤ 1000) (hA : isD c = true → AllD (c :: r)) :
  Calls Tryz.prog 60 #[.string ⟨(c :: r).toArray⟩] w (TkPost w (tokP (c :: r)).1 (tokP (c :: r)).2.1 ((tokP (c :: r)).2.2.1 : Int) (tokP (c :: r)).2.2.2) := by
 have hh : headD (c :: r) = isD c := rfl
 have hh2 : headL (c :: r) = isL c := rfl
 cases hD : isD c
 ·cases hL : isL c
  ·have h := from_N c r w hE hD hL
   rw [sign_mean c r hL] at h
   unfold tokP tokOK
   rw [hh, hh2, hD, hL]
   simp only [Bool.false_eq_true, if_false]
   cases hin : inB (c :: r) signW
   ·have hn : meanB (c :: r) = none := by
     have := sign_mean c r hL
     rw [hin] at this
     simpa using this
    rw [hn, hin] at h
    exact h
   ·have hs := sign_mean c r hL
    rw [hin] at hs
    obtain ⟨k, hk⟩ := Option.isSome_iff_exists.1 hs
    rw [hk, hin] at h
    have e1 : kindB (c :: r) = k := by unfold kindB; rw [hh, hD, hk]; rfl
    have e2 : textB (c :: r) = [] := by unfold textB; rw [hh, hD, hk]; rfl
    simp only [if_true]
    rw [e1, (nmB_no c r hD).1, (nmB_no c r hD).2, e2]
    exact h
  ·unfold tokP tokOK
   rw [hh, hh2, hD, hL]
   simp only [Bool.false_eq_true, if_false, if_true, List.length_cons]
   by_cases h6 : 6 < r.length + 1
   ·rw [if_neg (by simp; omega)]
    exact from_L c r w 0 [] 0 false hD hL fun w' _ => word_long c r w' hl h6
   ·rw [if_pos (by simp; omega)]
    cases hm : meanB (c :: r) with
    | none =>
     have e1 : kindB (c :: r) = 2 := by unfold kindB; rw [hh, hD, hm]; rfl
     have e2 : textB (c :: r) = c :: r := by unfold textB; rw [hh, hD, hm]; rfl
     simp only
     rw [e1, (nmB_no c r hD).1, (nmB_no c r hD).2, e2]
     exact from_L c r w 2 (c :: r) 0 true hD hL fun w' hb => word_name c r w' (hE.next hb) h6 hm
    | some k =>
     have e1 : kindB (c :: r) = k := by unfold kindB; rw [hh, hD, hm]; rfl
     have e2 : textB (c :: r) = [] := by unfold textB; rw [hh, hD, hm]; rfl
     simp only
     rw [e1, (nmB_no c r hD).1, (nmB_no c r hD).2, e2]
     exact from_L c r w k [] 0 true hD hL fun w' hb => word_mean c r w' (hE.next hb) h6 k hm
 ·unfold tokP tokOK
  rw [hh, hD]
  simp only [if_true, List.length_cons, Bool.and_eq_true, decide_eq_true_eq]
  by_cases hv : valD (c :: r) ≤ top63
  ·by_cases h19 : 19 < r.length + 1
   ·rw [if_neg (by omega)]
    exact from_D c r w 0 [] 0 false hD fun w' _ => number_long c r w' hl (hA hD) hv h19
   ·rw [if_pos ⟨by omega, hv⟩]
    have e1 : kindB (c :: r) = 1 := by unfold kindB; rw [hh, hD]; rfl
    have e2 : nmB (c :: r) = [] := by unfold nmB; rw [hh, hD]; rfl
    have e3 : nuB (c :: r) = valD (c :: r) := by unfold nuB; rw [hh, hD]; rfl
    simp only
    rw [e1, e2, e3]
    exact from_D c r w 1 _ _ true hD fun w' _ => number_ok c r w' hl (hA hD) hv h19
  ·rw [if_neg (by intro h; exact hv h.2)]
   exact from_D c r w 0 [] 0 false hD fun w' hb => number_range c r w' (hE.next hb) hl (hA hD) hv
end Go.Proofs.YtihgojcfpnhelaaGreatDoor
namespace Go.Proofs.YtihgojcfpnhelaaGreatDoor
open Go.RowKit
attribute [local go_sem] idx_eq app_eq
def pcells (ts : List (By × Nat)) : List Value := ts.flatMap fun t => [.int .i64 (kindB t.1), .int .i64 (t.2 : Int), .string ⟨(nmB t.1).toArray⟩, .int .i64 (nuB t.1 : Int)]
theorem pcells_snoc (ts : List (By × Nat)) (t : By) (p : Nat) : pcells (ts ++ [(t, p)]) = pcells ts ++ [.int .i64 (kindB t), .int .i64 (p : Int), .string ⟨(nmB t).toArray⟩, .int .i64 (nuB t : Int)] := by simp [pcells]
def endC (n : Nat) : List Value := [.int .i64 0, .int .i64 (n : Int), .string ⟨#[]⟩, .int .i64 0]
theorem info46 : (Tryz.prog.info? 134).map (fun i => (i.zero, i.size, i.bytes)) = some (some (.agg #[.int .i64 0, .int .i64 0, .string ⟨#[]⟩, .int .i64 0]), 4, 40) := by kernel_rfl
theorem allD_tw (r : By) : AllD (r.take (r.takeWhile isD).length) := by
 induction r with
 | nil => intro x hx; simp at hx
 | cons c r ih =>
  cases hc : isD c
  ·simp [hc]
   intro x hx; simp at hx
  ·simp [hc]
   intro x hx
   simp at hx
   rcases hx with rfl | hx
   ·exact hc
   ·exact ih x hx
theorem row_cons (c : UInt8) (r : By) : (c :: r).take (rowLen (c :: r)) = c :: r.take (rowLen (c :: r) - 1) := by
 have := rowLen_pos c r
 obtain ⟨n, hn⟩ : ∃ n, rowLen (c :: r) = n + 1 := ⟨rowLen (c :: r) - 1, by omega⟩
 rw [hn]
 rfl
theorem row_allD (c : UInt8) (r : By) (hc : isD c = true) : AllD (c :: r.take (rowLen (c :: r) - 1)) := by
 have hL : isL c = false := by
  have := isD_range hc
  simp [isL, letB]
  omega
 rw [rowLen_D hL hc, Nat.add_sub_cancel_left]
 intro x hx
 simp only [List.mem_cons] at hx
 rcases hx with rfl | hx
 ·exact hc
 ·exact allD_tw r x hx
theorem drop_ext (s : By) (k : Nat) (h : k < s.length) : (ByteArray.mk s.toArray).extract k s.length = ⟨(s[k] :: s.drop (k + 1)).toArray⟩ := by
 rw [ext_eq, ← List.drop_eq_getElem_cons h, List.take_of_length_le (by simp)]
theorem toks_row (f : Nat) (s : By) (k : Nat) (hk : k < s.length) (h : s[k] ≠ 32) (hok : tokOK (s[k] :: (s.drop (k + 1)).take (rowLen (s[k] :: s.drop (k + 1)) - 1)) = true) :
  toks (f + 1) (s.drop k) k = ((s[k] :: (s.drop (k + 1)).take (rowLen (s[k] :: s.drop (k + 1)) - 1), k) :: (toks f (s.drop (k + rowLen (s[k] :: s.drop (k + 1)))) (k + rowLen (s[k] :: s.drop (k + 1)))).1, (toks f (s.drop (k + rowLen (s[k] :: s.drop (k + 1)))) (k + rowLen (s[k] :: s.drop (k + 1)))).2) := by
 rw [← row_cons] at hok ⊢
 have hd : s.drop (k + rowLen (s[k] :: s.drop (k + 1))) = (s[k] :: s.drop (k + 1)).drop (rowLen (s[k] :: s.drop (k + 1))) := by
  conv => rhs; arg 2; rw [← List.drop_eq_getElem_cons hk]
  rw [List.drop_drop]
 rw [hd, List.drop_eq_getElem_cons hk]
 conv => lhs; unfold toks
 rw [if_neg h, if_pos hok]
theorem toks_row_bad (f : Nat) (s : By) (k : Nat) (hk : k < s.length) (h : s[k] ≠ 32) (hok : tokOK (s[k] :: (s.drop (k + 1)).take (rowLen (s[k] :: s.drop (k + 1)) - 1)) = false) :
  toks (f + 1) (s.drop k) k = ([], some k) := by
 rw [← row_cons] at hok
 rw [List.drop_eq_getElem_cons hk]
 conv => lhs; unfold toks
 rw [if_neg h, if_neg (by rw [hok]; simp)]
def ScanPost (s : By) (w : World) (e : Ending) (w' : World) : Prop :=
 (∀ p, (toksOf s).2 = some p → e = .returned (.tuple #[.slice none 0 0, .int .i64 2, .int .i64 (p : Int)])) ∧
 ((toksOf s).2 = none → ∃ v, e = .returned (.tuple #[v, .int .i64 0, .int .i64 0]) ∧ w'.ownsRow w.heap.size 134 4 v ((toksOf s).1.length + 1) (pcells (toksOf s).1 ++ endC s.length)) ∧
 Below w.heap.size w w'
theorem scan_long (s : By) (w : World) (h : 120 < s.length) : Calls Tryz.prog 42 #[.string ⟨s.toArray⟩] w fun e w' => e = .returned (.tuple #[.slice none 0 0, .int .i64 1, .int .i64 0]) ∧ w = w' := by
 go_enter Tryz.func42, Tryz.ntmps42
 go_wp2
 go_ret3
 exact ⟨rfl, rfl⟩
theorem scan7 (s : By) (w : World) (hE : Env w) (hl : s.length ≤ 120) :
  Calls Tryz.prog 42 #[.string ⟨s.toArray⟩] w (ScanPost s w) := by
 obtain ⟨i0, hi, hz0, hz1, hz2⟩ := info_parts info46
 have HE := tZ hE
 clear hE
 go_enter Tryz.func42, Tryz.ntmps42
 go_wp2
 go_loopw [5, 6] (fun v i wr => ∃ (k f : Nat) (ts : List (By × Nat)), k ≤ s.length ∧ s.length ≤ k + f ∧ i = .int .i64 (k : Int) ∧ wr.ownsRow w.heap.size 134 4 v ts.length (pcells ts) ∧ Below w.heap.size w wr ∧ ts.length ≤ k ∧
   Hid (toksOf s = (ts ++ (toks f (s.drop k) k).1, (toks f (s.drop k) k).2))) (fun _ i _ => s.length - (intOf i).toNat)
 case atStart => exact ⟨0, s.length, [], by omega, by omega, rfl, World.ownsRow_nil _ _ _ _, Below.refl _ _, by simp, rfl⟩
 case round =>
  obtain ⟨k, f, ts, hk, hf, rfl, hown, hb, hts, HT⟩ := hrel
  have hsz := hb.size
  by_cases hlt : k < s.length
  ·obtain ⟨f, rfl⟩ : ∃ g, f = g + 1 := ⟨f - 1, by omega⟩
   by_cases hsp : s[k] = 32
   ·have HT2 := tZ (HT.out.trans (by rw [toks_space f s k hlt hsp]))
    have hspb : ((s[k].toNat : Int) == 32) = true := by simp [hsp]
    clear hsp
    go_wp2
    go_roundw
    case rel => exact ⟨k + 1, f, ts, by omega, by omega, by go_num, hown, hb, by omega, HT2⟩
    case measure => simp [intOf]; omega
   ·have hspb : ((s[k].toNat : Int) == 32) = false := by
     simp only [beq_eq_false_iff_ne]
     intro h
     apply hsp
     apply UInt8.toNat_inj.1
     simp; omega
    have HX := tZ (drop_ext s k hlt)
    have HRC := tZ (row_cons s[k] (s.drop (k + 1)))
    have HRA := tZ (row_allD s[k] (s.drop (k + 1)))
    have hrl : rowLen (s[k] :: s.drop (k + 1)) ≤ s.length - k := by have := rowLen_le (s[k] :: s.drop (k + 1)); rw [List.length_cons, List.length_drop] at this; omega
    have hrp := rowLen_pos s[k] (s.drop (k + 1))
    have HTR := tZ (toks_row f s k hlt hsp)
    have HTB := tZ (toks_row_bad f s k hlt hsp)
    have HLR := tZ (show (s.drop (k + 1)).length ≤ 1000 by simp; omega)
    clear hsp
    cases hok : tokOK (s[k] :: (s.drop (k + 1)).take (rowLen (s[k] :: s.drop (k + 1)) - 1))
    ·have HTP := tZ (show tokP (s[k] :: (s.drop (k + 1)).take (rowLen (s[k] :: s.drop (k + 1)) - 1)) = (0, [], 0, false) by unfold tokP; rw [hok]; rfl)
     have HB := tZ (HTB.out hok)
     clear hok
     generalize s.drop (k + 1) = r at *
     generalize s[k] = c at HX HRC HRA hrl hrp HTP
     go_wp2_with (first | (go_at_call 59; rw [HX.out]; refine (firstRow12 c r _ HLR.out).mono ?_; rw [HRC.out]; rintro e w' ⟨rfl, rfl⟩) | (go_at_call 60; refine (fromRow13 c (r.take (rowLen (c :: r) - 1)) _ (HE.out.next hb) (by have := HLR.out; rw [List.length_take]; omega) HRA.out).mono ?_; rw [HTP.out]; rintro e w1 ⟨rfl, hb1⟩))
     go_ret3
     refine ⟨fun p hp => ?_, fun hn => ?_, (hb.trans (hb1.mono hsz)).alloc (by have := hb1.size; omega) _⟩
     ·rw [HT.out, HB.out] at hp
      simp at hp
      subst hp
      rfl
     ·rw [HT.out, HB.out] at hn
      simp at hn
    ·have HTP := tZ (show tokP (s[k] :: (s.drop (k + 1)).take (rowLen (s[k] :: s.drop (k + 1)) - 1)) = (kindB (s[k] :: (s.drop (k + 1)).take (rowLen (s[k] :: s.drop (k + 1)) - 1)), nmB (s[k] :: (s.drop (k + 1)).take (rowLen (s[k] :: s.drop (k + 1)) - 1)), nuB (s[k] :: (s.drop (k + 1)).take (rowLen (s[k] :: s.drop (k + 1)) - 1)), true) by unfold tokP; rw [hok]; rfl)
     have HB := tZ (HTR.out hok)
     have HRL := tZ (show (s[k] :: (s.drop (k + 1)).take (rowLen (s[k] :: s.drop (k + 1)) - 1)).length = rowLen (s[k] :: s.drop (k + 1)) by rw [List.length_cons, List.length_take, List.length_drop]; omega)
     clear hok HTR HTB
     generalize s.drop (k + 1) = r at *
     generalize s[k] = c at HX HRC HRA hrl hrp HTP HB HRL
     generalize hn : rowLen (c :: r) = n at *
     have HN := tZ hn
     clear hn
     go_wp2_with (first | (go_at_call 59; rw [HX.out]; refine (firstRow12 c r _ HLR.out).mono ?_; rw [HN.out, HRC.out]; rintro e w' ⟨rfl, rfl⟩; refine Hid.out ?_))
     refine tZ ?_
     generalize hrow : c :: r.take (n - 1) = row at *
     have HROW := tZ hrow
     clear hrow
     go_wp2_with (first | (go_at_call 60; rw [← HROW.out]; refine (fromRow13 c (r.take (n - 1)) _ (HE.out.next hb) (by have := HLR.out; rw [List.length_take]; omega) (by rw [HROW.out]; exact HRA.out)).mono ?_; rw [HROW.out, HTP.out]; rintro e w1 ⟨rfl, hb1⟩; refine Hid.out ?_))
     refine tZ ?_
     have hs1 := hb1.size
     have hrl2 := HRL.out
     have HRL2 := tZ hrl2
     have hrl3 : (row.length : Int) ≤ s.length := by omega
     clear hrl2
     go_wp2_with (first | (at_builtin; refine wpList_append_own _ rfl (.tmp 37) (.tmp 39) 81 rfl w.heap.size 134 i0 (.agg #[.int .i64 0, .int .i64 0, .string ⟨#[]⟩, .int .i64 0]) 4 40 Tryz.underlying81 hi hz0 hz1 hz2 rfl (by decide) u5 ts.length (pcells ts) rfl (((own_below hown hb1).alloc _).alloc _) ⟨w1.heap.size + 1, 0, none⟩ 1 1 [.int .i64 (kindB row), .int .i64 (k : Int), .string ⟨(nmB row).toArray⟩, .int .i64 (nuB row : Int)] rfl rfl ?c1 (fun u hu => by simp at hu; rcases hu with rfl | rfl | rfl | rfl <;> rfl) (by unfold maxLen; omega) (by omega) (by simp; omega) ?_; rotate_right; intro v' w2 hown' hgrow _; refine Hid.out ?_))
     case c1 =>
      intro j u hj
      have := cells_new (w1.alloc (.cells #[.int .i64 (kindB row), .int .i64 (k : Int), .string ⟨(nmB row).toArray⟩, .int .i64 (nuB row : Int)] 134)) [.int .i64 (kindB row), .int .i64 (k : Int), .string ⟨(nmB row).toArray⟩, .int .i64 (nuB row : Int)] 134 j u hj
      simpa using this
     have HO := tZ hown'
     have HG := tZ hgrow
     clear hown' hgrow
     refine tZ ?_
     go_wp2
     go_roundw
     case rel =>
      refine ⟨k + n, f, ts ++ [(row, k)], by omega, by omega, by rw [HRL2.out]; go_num, ?_, ?_, by simp; omega, ?_⟩
      ·rw [pcells_snoc, List.length_append]
       exact HO.out
      ·refine (((hb.trans (hb1.mono hsz)).alloc (by omega) _).alloc (by simp; omega) _).grown HG.out (by simp; omega) (fun q hq => ?_)
       exact (World.ownsRow.lt hown q hq).1
      ·refine HT.out.trans ?_
       rw [HB.out]
       simp
     case measure => rw [HRL2.out]; simp [intOf]; omega
  ·go_wp2_with (first | (at_builtin; refine wpList_append_own _ rfl (.tmp 45) (.tmp 49) 81 rfl w.heap.size 134 i0 (.agg #[.int .i64 0, .int .i64 0, .string ⟨#[]⟩, .int .i64 0]) 4 40 Tryz.underlying81 hi hz0 hz1 hz2 rfl (by decide) u5 ts.length (pcells ts) rfl (hown.alloc _) ⟨wr.heap.size, 0, none⟩ 1 1 (endC s.length) rfl rfl (fun j u hj => cells_new wr (endC s.length) 134 j u hj) (fun u hu => by simp [endC] at hu; rcases hu with rfl | rfl | rfl | rfl <;> rfl) (by unfold maxLen; omega) (by omega) (by simp; omega) ?_; intro v' w2 hown' hgrow _))
   go_ret3
   have hnil : toks f (s.drop k) k = ([], none) := by
    rw [List.drop_of_length_le (by omega)]
    cases f <;> rfl
   have HF := HT.out
   rw [hnil] at HF
   simp at HF
   refine ⟨fun p hp => ?_, fun _ => ?_, (hb.alloc hsz _).grown hgrow (by simp; omega) (fun q hq => (World.ownsRow.lt hown q hq).1)⟩
   ·rw [HF] at hp; simp at hp
   ·rw [HF]; exact ⟨_, rfl, hown'⟩
end Go.Proofs.YtihgojcfpnhelaaGreatDoor
namespace Go.Proofs.YtihgojcfpnhelaaGreatDoor
open Go.RowKit
abbrev PT := Int × Nat × By × Nat
def ptc (l : List PT) : List Value := l.flatMap fun t => [.int .i64 t.1, .int .i64 (t.2.1 : Int), .string ⟨t.2.2.1.toArray⟩, .int .i64 (t.2.2.2 : Int)]
theorem setCell_block {w : World} {b : Nat} {cs : Array Value} {t : TypeId} {fr : Nat × Nat} (h : w.heap[b]? = some (.cells cs t fr)) (j : Nat) (u : Value) : (w.setCell ⟨b, j, none⟩ u).heap[b]? = some (.cells (cs.setIfInBounds j u) t fr) := by
 simp [World.setCell, Array.getElem?_modify, h]
structure Kp (b : Nat) (w w' : World) : Prop where
 bel : Below b w w'
 up : ∀ q, b < q → q < w.heap.size → w'.heap[q]? = w.heap[q]?
theorem Kp.size {b : Nat} {w w' : World} (h : Kp b w w') : w.heap.size ≤ w'.heap.size := h.bel.size
theorem Kp.heap {b : Nat} {w w' : World} (h : Kp b w w') {q : Nat} (hq : q ≠ b) (hs : q < w.heap.size) : w'.heap[q]? = w.heap[q]? := by
 rcases Nat.lt_or_ge q b with h1 | h1
 ·exact h.bel.block q h1
 ·exact h.up q (by omega) hs
theorem Kp.refl (b : Nat) (w : World) : Kp b w w := ⟨Below.refl _ _, fun _ _ _ => rfl⟩
theorem Kp.trans {b : Nat} {w w' w'' : World} (h : Kp b w w') (g : Kp b w' w'') : Kp b w w'' :=
 ⟨h.bel.trans g.bel, fun q hq hs => (g.up q hq (Nat.lt_of_lt_of_le hs h.size)).trans (h.up q hq hs)⟩
theorem Kp.next {b : Nat} {w w' w'' : World} (h : Kp b w w') (g : Below w'.heap.size w' w'') (hb : b < w'.heap.size) : Kp b w w'' :=
 h.trans ⟨g.mono (by omega), fun q _ hs => g.block q hs⟩
theorem Kp.of {b : Nat} {w w' : World} (g : Below w.heap.size w w') (hb : b < w.heap.size) : Kp b w w' := (Kp.refl b w).next g hb
theorem Kp.here {b : Nat} (w : World) (j : Nat) (u : Value) : Kp b w (w.setCell ⟨b, j, none⟩ u) :=
 ⟨(Below.refl b w).setCell (p := ⟨b, j, none⟩) (Nat.le_refl _) _, fun q hq _ => Below.heap_setCell _ _ _ _ (by show q ≠ b; omega)⟩
theorem Kp.there {b : Nat} {w w' : World} (h : Kp b w w') (g j : Nat) (u : Value) (hg : w.heap.size ≤ g) (hb : b < w.heap.size) : Kp b w (w'.setCell ⟨g, j, none⟩ u) :=
 ⟨h.bel.setCell (p := ⟨g, j, none⟩) (by show b ≤ g; omega) _, fun q hq hs => (Below.heap_setCell _ _ _ _ (by show q ≠ g; omega)).trans (h.up q hq hs)⟩
theorem Kp.drew {b : Nat} {w w' : World} (h : Kp b w w') : Kp b w w'.drew := ⟨h.bel.drew, h.up⟩
theorem Kp.blk {b q : Nat} {w w' : World} {o : Obj} (h : Kp b w w') (hq : w.heap[q]? = some o) (hn : q ≠ b) : w'.heap[q]? = some o :=
 (h.heap hn (Array.getElem?_eq_some_iff.1 hq).1).trans hq
theorem fz_of_row {w : World} {q : Nat} {cs : Array Value} {t : TypeId} (h : w.heap[q]? = some (.cells cs t (0, 0))) (o : Nat) : w.frozen? ⟨q, o, none⟩ = false := by
 simp [World.frozen?, h]
theorem row4 {w : World} {q : Nat} {v0 v1 v2 v3 : Value} {t : TypeId} (h : w.heap[q]? = some (.cells #[v0, v1, v2, v3] t (0, 0))) :
  (w.cell? ⟨q, 0, none⟩ = some v0 ∧ w.cell? ⟨q, 1, none⟩ = some v1 ∧ w.cell? ⟨q, 2, none⟩ = some v2 ∧ w.cell? ⟨q, 3, none⟩ = some v3) ∧ (w.frozen? ⟨q, 0, none⟩ = false ∧ w.frozen? ⟨q, 1, none⟩ = false ∧ w.frozen? ⟨q, 2, none⟩ = false ∧ w.frozen? ⟨q, 3, none⟩ = false) ∧ q < w.heap.size :=
 ⟨⟨(cell_of_row w q 0 _ _ _ h).trans rfl, (cell_of_row w q 1 _ _ _ h).trans rfl, (cell_of_row w q 2 _ _ _ h).trans rfl, (cell_of_row w q 3 _ _ _ h).trans rfl⟩, ⟨fz_of_row h 0, fz_of_row h 1, fz_of_row h 2, fz_of_row h 3⟩, (Array.getElem?_eq_some_iff.1 h).1⟩
theorem row1 {w : World} {q : Nat} {v0 : Value} {t : TypeId} (h : w.heap[q]? = some (.cells #[v0] t (0, 0))) :
  w.cell? ⟨q, 0, none⟩ = some v0 ∧ w.frozen? ⟨q, 0, none⟩ = false ∧ q < w.heap.size :=
 ⟨(cell_of_row w q 0 _ _ _ h).trans rfl, fz_of_row h 0, (Array.getElem?_eq_some_iff.1 h).1⟩
structure Rdr (w : World) (b bl cp : Nat) (pt : List PT) (i : Nat) (d e : Int) : Prop where
 own : w.heap[b]? = some (.cells #[.slice (some ⟨bl, i * 4, none⟩) (pt.length - i) (cp - i), .int .i64 d, .int .i64 e] 138 (0, 0))
 blk : bl < b
 lt : i < pt.length
 cap : pt.length ≤ cp
 many : pt.length ≤ 200
 kip : ∀ t, t ∈ pt → 0 ≤ t.1 ∧ t.1 < 20
 left : ∀ j (h : j < pt.length), w.cell? ⟨bl, j * 4, none⟩ = some (.int .i64 pt[j].1) ∧ w.cell? ⟨bl, j * 4 + 1, none⟩ = some (.int .i64 (pt[j].2.1 : Int)) ∧ w.cell? ⟨bl, j * 4 + 2, none⟩ = some (.string ⟨pt[j].2.2.1.toArray⟩) ∧ w.cell? ⟨bl, j * 4 + 3, none⟩ = some (.int .i64 (pt[j].2.2.2 : Int))
section
variable {w : World} {b bl cp : Nat} {pt : List PT} {i : Nat} {d e : Int}
theorem Rdr.size (h : Rdr w b bl cp pt i d e) : b < w.heap.size := (Array.getElem?_eq_some_iff.1 h.own).1
theorem Rdr.cell (h : Rdr w b bl cp pt i d e) : w.cell? ⟨b, 0, none⟩ = some (.slice (some ⟨bl, i * 4, none⟩) (pt.length - i) (cp - i)) ∧ w.cell? ⟨b, 1, none⟩ = some (.int .i64 d) ∧ w.cell? ⟨b, 2, none⟩ = some (.int .i64 e) ∧ ∀ j, w.frozen? ⟨b, j, none⟩ = false := by
 have hb := h.own
 refine ⟨?_, ?_, ?_, fun j => ?_⟩
 ·rw [cell_of_row w b 0 _ _ _ hb]; rfl
 ·rw [cell_of_row w b 1 _ _ _ hb]; rfl
 ·rw [cell_of_row w b 2 _ _ _ hb]; rfl
 ·simp [World.frozen?, hb]
theorem Rdr.next (h : Rdr w b bl cp pt i d e) {w' : World} (hb : Below w.heap.size w w') : Rdr w' b bl cp pt i d e := by
 have hs := h.size
 refine ⟨(hb.block b hs).trans h.own, h.blk, h.lt, h.cap, h.many, h.kip, fun j hj => ?_⟩
 have hl : bl < w.heap.size := Nat.lt_trans h.blk hs
 rw [hb.cell hl, hb.cell hl, hb.cell hl, hb.cell hl]; exact h.left j hj
theorem Rdr.apart (h : Rdr w b bl cp pt i d e) {w' : World} (hb : w'.heap[b]? = w.heap[b]?) (hl : w'.heap[bl]? = w.heap[bl]?) : Rdr w' b bl cp pt i d e := by
 refine ⟨hb.trans h.own, h.blk, h.lt, h.cap, h.many, h.kip, fun j hj => ?_⟩
 have key : ∀ o, w'.cell? ⟨bl, o, none⟩ = w.cell? ⟨bl, o, none⟩ := fun o => by simp only [World.cell?, hl]
 rw [key, key, key, key]; exact h.left j hj
theorem Rdr.store (h : Rdr w b bl cp pt i d e) {g j : Nat} {u : Value} (hg : g ≠ b) (hl : g ≠ bl) : Rdr (w.setCell ⟨g, j, none⟩ u) b bl cp pt i d e :=
 h.apart (Below.heap_setCell _ _ _ _ (by show b ≠ g; omega)) (Below.heap_setCell _ _ _ _ (by show bl ≠ g; omega))
theorem Rdr.drew (h : Rdr w b bl cp pt i d e) : Rdr w.drew b bl cp pt i d e := ⟨h.own, h.blk, h.lt, h.cap, h.many, h.kip, h.left⟩
theorem Rdr.setD (h : Rdr w b bl cp pt i d e) (d' : Int) : Rdr (w.setCell ⟨b, 1, none⟩ (.int .i64 d')) b bl cp pt i d' e ∧ Kp b w (w.setCell ⟨b, 1, none⟩ (.int .i64 d')) := by
 have hk := Kp.here (b := b) w 1 (.int .i64 d')
 refine ⟨⟨?_, h.blk, h.lt, h.cap, h.many, h.kip, fun j hj => ?_⟩, hk⟩
 ·rw [setCell_block h.own]; rfl
 ·rw [hk.bel.cell h.blk, hk.bel.cell h.blk, hk.bel.cell h.blk, hk.bel.cell h.blk]; exact h.left j hj
theorem Rdr.setE (h : Rdr w b bl cp pt i d e) (e' : Int) : Rdr (w.setCell ⟨b, 2, none⟩ (.int .i64 e')) b bl cp pt i d e' ∧ Kp b w (w.setCell ⟨b, 2, none⟩ (.int .i64 e')) := by
 have hk := Kp.here (b := b) w 2 (.int .i64 e')
 refine ⟨⟨?_, h.blk, h.lt, h.cap, h.many, h.kip, fun j hj => ?_⟩, hk⟩
 ·rw [setCell_block h.own]; rfl
 ·rw [hk.bel.cell h.blk, hk.bel.cell h.blk, hk.bel.cell h.blk, hk.bel.cell h.blk]; exact h.left j hj
theorem Rdr.step (h : Rdr w b bl cp pt i d e) (hi : i + 1 < pt.length) : Rdr (w.setCell ⟨b, 0, none⟩ (.slice (some ⟨bl, i * 4 + 4, none⟩) (pt.length - i - 1) (cp - i - 1))) b bl cp pt (i + 1) d e ∧ Kp b w (w.setCell ⟨b, 0, none⟩ (.slice (some ⟨bl, i * 4 + 4, none⟩) (pt.length - i - 1) (cp - i - 1))) := by
 have hk := Kp.here (b := b) w 0 (.slice (some ⟨bl, i * 4 + 4, none⟩) (pt.length - i - 1) (cp - i - 1))
 refine ⟨⟨?_, h.blk, hi, h.cap, h.many, h.kip, fun j hj => ?_⟩, hk⟩
 ·rw [setCell_block h.own, show (i + 1) * 4 = i * 4 + 4 by omega, show pt.length - (i + 1) = pt.length - i - 1 by omega, show cp - (i + 1) = cp - i - 1 by omega]; rfl
 ·rw [hk.bel.cell h.blk, hk.bel.cell h.blk, hk.bel.cell h.blk, hk.bel.cell h.blk]; exact h.left j hj
end
theorem heap4 (w : World) (g : Nat) (v0 v1 v2 v3 : Value) {q : Nat} (h : q ≠ g) : ((((w.setCell ⟨g, 0, none⟩ v0).setCell ⟨g, 1, none⟩ v1).setCell ⟨g, 2, none⟩ v2).setCell ⟨g, 3, none⟩ v3).heap[q]? = w.heap[q]? := by
 rw [Below.heap_setCell _ _ _ _ h, Below.heap_setCell _ _ _ _ h, Below.heap_setCell _ _ _ _ h, Below.heap_setCell _ _ _ _ h]
theorem Rdr.store4 {w : World} {b bl cp : Nat} {pt : List PT} {i : Nat} {d e : Int} (h : Rdr w b bl cp pt i d e) (g : Nat) (v0 v1 v2 v3 : Value) (hg : b < g) : Rdr ((((w.setCell ⟨g, 0, none⟩ v0).setCell ⟨g, 1, none⟩ v1).setCell ⟨g, 2, none⟩ v2).setCell ⟨g, 3, none⟩ v3) b bl cp pt i d e :=
 h.apart (heap4 w g v0 v1 v2 v3 (by omega)) (heap4 w g v0 v1 v2 v3 (by have := h.blk; omega))
theorem Kp.there4 {b : Nat} {w w' : World} (h : Kp b w w') (g : Nat) (v0 v1 v2 v3 : Value) (hg : w.heap.size ≤ g) (hb : b < w.heap.size) : Kp b w ((((w'.setCell ⟨g, 0, none⟩ v0).setCell ⟨g, 1, none⟩ v1).setCell ⟨g, 2, none⟩ v2).setCell ⟨g, 3, none⟩ v3) :=
 (((h.there g 0 v0 hg hb).there g 1 v1 hg hb).there g 2 v2 hg hb).there g 3 v3 hg hb
theorem heap2 (w : World) (o1 o2 : Obj) {q : Nat} (h : q < w.heap.size) : ((w.alloc o1).alloc o2).heap[q]? = w.heap[q]? := by
 rw [Below.heap_alloc _ _ _ (by simp; omega), Below.heap_alloc _ _ _ h]
theorem below2 (w : World) (o1 o2 : Obj) : Below w.heap.size w ((w.alloc o1).alloc o2) := (bZ _).alloc (by simp) _
theorem size4 (w : World) (g : Nat) (v0 v1 v2 v3 : Value) : ((((w.setCell ⟨g, 0, none⟩ v0).setCell ⟨g, 1, none⟩ v1).setCell ⟨g, 2, none⟩ v2).setCell ⟨g, 3, none⟩ v3).heap.size = w.heap.size := by simp
theorem kind42 (w : World) (b bl cp : Nat) (pt : List PT) (i : Nat) (d e : Int) (h : Rdr w b bl cp pt i d e) :
  Calls Tryz.prog 127 #[.pointer (some ⟨b, 0, none⟩)] w fun r w' => r = .returned (.int .i64 (pt[i]'h.lt).1) ∧ w = w' := by
 have c0 := h.cell.1
 have l0 := (h.left i h.lt).1
 have hlt := h.lt
 have hn : (0 : Int) < ((pt.length - i : Nat) : Int) := by omega
 generalize (pt[i]'h.lt).1 = k at *
 generalize pt.length - i = n at *
 clear h hlt
 go_enter Tryz.func127, Tryz.ntmps127
 go_wp2
 go_ret
 exact ⟨rfl, rfl⟩
theorem is_yes (w : World) (b bl cp : Nat) (pt : List PT) (i : Nat) (d e k : Int) (h : Rdr w b bl cp pt i d e) (hk : (pt[i]'h.lt).1 = k) :
  Calls Tryz.prog 94 #[.pointer (some ⟨b, 0, none⟩), .int .i64 k] w fun r w' => r = .returned (.bool true) ∧ w = w' := by
 have H := tZ (kind42 w b bl cp pt i d e h)
 have HK := tZ hk
 have hkb : (k != k) = false := by simp
 clear hk
 go_enter Tryz.func94, Tryz.ntmps94
 go_wp2_with (first | (go_at_call 127; refine H.out.mono ?_; rw [HK.out]; rintro e w' ⟨rfl, rfl⟩))
 go_ret
 exact ⟨rfl, rfl⟩
theorem is_no (w : World) (b bl cp : Nat) (pt : List PT) (i : Nat) (d e k : Int) (h : Rdr w b bl cp pt i d e) (hk : (pt[i]'h.lt).1 ≠ k) :
  Calls Tryz.prog 94 #[.pointer (some ⟨b, 0, none⟩), .int .i64 k] w fun r w' => r = .returned (.bool false) ∧ Rdr w' b bl cp pt i d 3 ∧ Kp b w w' := by
 have H := tZ (kind42 w b bl cp pt i d e h)
 have HF := tZ (h.setE 3)
 obtain ⟨_, _, c2, fz⟩ := h.cell
 have fz2 := fz 2
 clear fz
 generalize (pt[i]'h.lt).1 = z at *
 have hkb : (z == k) = false := beq_eq_false_iff_ne.2 hk
 have hkb2 : (z != k) = true := by simp [bne, hkb]
 clear hk h
 go_enter Tryz.func94, Tryz.ntmps94
 go_wp2_with (first | (go_at_call 127; refine H.out.mono ?_; rintro e w' ⟨rfl, rfl⟩))
 go_ret
 exact ⟨rfl, HF.out⟩
theorem take45 (w : World) (b bl cp : Nat) (pt : List PT) (i : Nat) (d e : Int) (h : Rdr w b bl cp pt i d e) (hi : i + 1 < pt.length) :
  Calls Tryz.prog 130 #[.pointer (some ⟨b, 0, none⟩)] w fun r w' => r = .returned (.agg #[.int .i64 (pt[i]'h.lt).1, .int .i64 ((pt[i]'h.lt).2.1 : Int), .string ⟨(pt[i]'h.lt).2.2.1.toArray⟩, .int .i64 ((pt[i]'h.lt).2.2.2 : Int)]) ∧ Rdr w' b bl cp pt (i + 1) d e ∧ Kp b w w' := by
 obtain ⟨c0, _, _, fz⟩ := h.cell
 have fz0 := fz 0
 obtain ⟨l0, l1, l2, l3⟩ := h.left i h.lt
 have hcap := h.cap
 have hs := h.size
 have hbs : bl < w.heap.size := Nat.lt_trans h.blk hs
 have HF := tZ (fun w' (g : Rdr w' b bl cp pt i d e) => g.step hi)
 have HR := tZ h
 obtain ⟨n, hn⟩ : ∃ n, pt.length - i = n + 2 := ⟨pt.length - i - 2, by omega⟩
 obtain ⟨m, hm⟩ : ∃ m, cp - i = m + 2 := ⟨cp - i - 2, by omega⟩
 have hnm : n ≤ m := by omega
 rw [hn, hm] at c0 HF
 have hmany := h.many
 have hn1 : (0 : Int) < (n : Int) + 2 := by omega
 have hn2 : (0 : Int) ≤ (n : Int) := by omega
 have hn3 : (n : Int) ≤ (m : Int) := by omega
 generalize (pt[i]'h.lt).1 = k at *
 generalize (pt[i]'h.lt).2.1 = p at *
 generalize (pt[i]'h.lt).2.2.1 = x at *
 generalize (pt[i]'h.lt).2.2.2 = nn at *
 clear fz h hcap hn hm
 go_enter Tryz.func130, Tryz.ntmps130
 go_wp2
 refine bodyPost_ret (v := .agg #[.int .i64 k, .int .i64 (p : Int), .string ⟨x.toArray⟩, .int .i64 (nn : Int)]) (by simp [results, Tryz.results130, go_sem]) rfl ?_
 have hb2 := ((Below.refl _ (w.setCell ⟨b, 0, none⟩ (.slice (some ⟨bl, i * 4 + 4, none⟩) (n + 1) (m + 1)))).alloc (Nat.le_refl _) (.cells #[.int .i64 k, .int .i64 (p : Int), .string ⟨x.toArray⟩, .int .i64 (nn : Int)] 134)).alloc (by simp) (.cells #[.int .i64 k, .int .i64 (p : Int), .string ⟨x.toArray⟩, .int .i64 (nn : Int)] 134)
 exact ⟨rfl, (HF.out w HR.out).1.next hb2, (HF.out w HR.out).2.next hb2 (by simp; omega)⟩
theorem pass_yes (w : World) (b bl cp : Nat) (pt : List PT) (i : Nat) (d e k : Int) (h : Rdr w b bl cp pt i d e) (hk : (pt[i]'h.lt).1 = k) (hi : i + 1 < pt.length) :
  Calls Tryz.prog 188 #[.pointer (some ⟨b, 0, none⟩), .int .i64 k] w fun r w' => r = .returned (.bool true) ∧ Rdr w' b bl cp pt (i + 1) d e ∧ Kp b w w' := by
 have H := tZ (is_yes w b bl cp pt i d e k h hk)
 have HT := tZ (take45 w b bl cp pt i d e h hi)
 clear hk
 go_enter Tryz.func188, Tryz.ntmps188
 go_wp2_with (first | (go_at_call 94; refine H.out.mono ?_; rintro e w' ⟨rfl, rfl⟩) | (go_at_call 130; refine HT.out.mono ?_; rintro e w' ⟨rfl, hr, hbb⟩))
 go_ret
 exact ⟨rfl, hr, hbb⟩
theorem pass_no (w : World) (b bl cp : Nat) (pt : List PT) (i : Nat) (d e k : Int) (h : Rdr w b bl cp pt i d e) (hk : (pt[i]'h.lt).1 ≠ k) :
  Calls Tryz.prog 188 #[.pointer (some ⟨b, 0, none⟩), .int .i64 k] w fun r w' => r = .returned (.bool false) ∧ Rdr w' b bl cp pt i d 3 ∧ Kp b w w' := by
 have H := tZ (is_no w b bl cp pt i d e k h hk)
 clear hk
 go_enter Tryz.func188, Tryz.ntmps188
 go_wp2_with (first | (go_at_call 94; refine H.out.mono ?_; rintro e w' ⟨rfl, hr, hbb⟩))
 go_ret
 exact ⟨rfl, hr, hbb⟩
theorem enter_no (w : World) (b bl cp : Nat) (pt : List PT) (i : Nat) (e : Int) (h : Rdr w b bl cp pt i 6 e) :
  Calls Tryz.prog 158 #[.pointer (some ⟨b, 0, none⟩)] w fun r w' => r = .returned (.tuple #[.agg #[.int .i64 0, .int .i64 0, .string ⟨#[]⟩, .int .i64 0], .bool false]) ∧ Rdr w' b bl cp pt i 6 4 ∧ Kp b w w' := by
 have hs := h.size
 have HF := tZ (h.setE 4)
 obtain ⟨_, c2, c3, fz⟩ := h.cell
 have fz3 := fz 2
 clear fz h
 go_enter Tryz.func158, Tryz.ntmps158
 go_wp2
 refine bodyPost_ret (v := .tuple #[.agg #[.int .i64 0, .int .i64 0, .string ⟨#[]⟩, .int .i64 0], .bool false]) (by simp [results, Tryz.results158, go_sem]) rfl ?_
 have hb2 := (Below.refl _ (w.setCell ⟨b, 2, none⟩ (.int .i64 4))).alloc (Nat.le_refl _) (.cells #[.int .i64 0, .int .i64 0, .string ⟨#[]⟩, .int .i64 0] 134)
 exact ⟨rfl, HF.out.1.next hb2, HF.out.2.next hb2 (by simp; omega)⟩
theorem enter_yes (w : World) (b bl cp : Nat) (pt : List PT) (i : Nat) (d : Nat) (e : Int) (h : Rdr w b bl cp pt i d e) (hd : d < 6) (hi : i + 1 < pt.length) :
  Calls Tryz.prog 158 #[.pointer (some ⟨b, 0, none⟩)] w fun r w' => r = .returned (.tuple #[.agg #[.int .i64 (pt[i]'h.lt).1, .int .i64 ((pt[i]'h.lt).2.1 : Int), .string ⟨(pt[i]'h.lt).2.2.1.toArray⟩, .int .i64 ((pt[i]'h.lt).2.2.2 : Int)], .bool true]) ∧ Rdr w' b bl cp pt (i + 1) ((d : Int) + 1) e ∧ Kp b w w' := by
 have HF := tZ (h.setD ((d : Int) + 1))
 obtain ⟨_, c2, c3, fz⟩ := h.cell
 have fz2 := fz 1
 have hs := h.size
 have hblk := h.blk
 have HT := tZ (fun w1 (g : Rdr w1 b bl cp pt i ((d : Int) + 1) e) => take45 w1 b bl cp pt i _ e g hi)
 have hdb : ((d : Int) == 6) = false := beq_eq_false_iff_ne.2 (by omega)
 have hlt := h.lt
 clear fz
 go_enter Tryz.func158, Tryz.ntmps158
 go_wp2_with (first | (go_at_call 130; refine (HT.out _ (HF.out.1.next (bZ _))).mono ?_; rintro e w' ⟨rfl, hr, hbb⟩; refine Hid.out ?_))
 have hblk1 := hbb.blk (q := w.heap.size) (by have := heap_alloc_new (w.setCell ⟨b, 1, none⟩ (.int .i64 ((d : Int) + 1))) (.cells #[.int .i64 0, .int .i64 0, .string ⟨#[]⟩, .int .i64 0] 134); simpa using this) (by omega)
 obtain ⟨⟨k0, k1, k2, k3⟩, ⟨f0, f1, f2, f3⟩, hsz⟩ := row4 hblk1
 clear hblk1
 have HB := tZ hbb
 have HR := tZ hr
 clear hr hbb
 refine tZ ?_
 go_wp2
 refine bodyPost_ret (v := .tuple #[.agg #[.int .i64 (pt[i]'hlt).1, .int .i64 ((pt[i]'hlt).2.1 : Int), .string ⟨(pt[i]'hlt).2.2.1.toArray⟩, .int .i64 ((pt[i]'hlt).2.2.2 : Int)], .bool true]) (by simp [results, Tryz.results158, go_sem, k0, k1, k2, k3]) rfl ?_
 have hk0 : Kp b w w' := (HF.out.2.next (bZ _) (by simp; omega)).trans HB.out
 exact ⟨rfl, (((HR.out.store (by omega) (by omega)).store (by omega) (by omega)).store (by omega) (by omega)).store (by omega) (by omega), (((hk0.there _ _ _ (Nat.le_refl _) hs).there _ _ _ (Nat.le_refl _) hs).there _ _ _ (Nat.le_refl _) hs).there _ _ _ (Nat.le_refl _) hs⟩
end Go.Proofs.YtihgojcfpnhelaaGreatDoor
namespace Go.Proofs.YtihgojcfpnhelaaGreatDoor
open Go.RowKit
attribute [local go_sem] idx_eq app_eq
def strs (l : List By) : List Value := l.map fun x => .string ⟨x.toArray⟩
def Own (w : World) (B : Nat) (v : Value) (l : List By) : Prop := w.ownsRow B 9 1 v l.length (strs l)
theorem own_lit (w : World) (l : List By) (hl : l.length ≤ 1000) : Own (w.alloc (.cells (strs l).toArray 9)) w.heap.size (.slice (some ⟨w.heap.size, 0, none⟩) l.length l.length) l := by
 have h := World.ownsRow_lit (base := w.heap.size) (e := 9) (size := 1) w (strs l).toArray l.length (Nat.le_refl _) (by unfold maxLen; omega) (by simp [strs])
 exact h
theorem info9 : (Tryz.prog.info? 9).map (fun i => (i.zero, i.size, i.bytes)) = some (some (.string ⟨#[]⟩), 1, 16) := by kernel_rfl
end Go.Proofs.YtihgojcfpnhelaaGreatDoor
