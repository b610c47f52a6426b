import Derived.Shelf.Strings.BuilderK
import Derived.Shelf.Strconv.Atoi
import Derived.Shelf.Strconv.Itoa4
import Derived.Shelf.Strconv.ErrVarParseInt
import Derived.Test.YtihgojcfpnhelabGreatDoorS2I
import Derived.Deep.LoopGhost
set_option maxRecDepth 100000
set_option maxHeartbeats 4000000
set_option linter.unusedVariables false
set_option linter.unusedSimpArgs false
namespace Go.Proofs
open Go.Shelf
def Tryz.lays169_ren : Go.Shelf.Ren := ⟨fun | 169 => 65 | n => n, fun | 70 => 126 | 9 => 9 | 0 => 0 | 72 => 129 | 37 => 127 | 127 => 160 | 3 => 3 | 5 => 5 | n => n, fun | n => n⟩
theorem Tryz.lays169 : Go.Proofs.Lays.n169 Tryz.prog Tryz.lays169_ren := {
 mixed := by kernel_rfl
 f169 := Tryz.func65.trans (congrArg some (by kernel_rfl))
 t0 := Tryz.underlying0
 a0 := Tryz.isAgg0
 z0 := Tryz.sizeOf0
 v0 := Tryz.zeroValue0
 t3 := Tryz.underlying3
 a3 := Tryz.isAgg3
 z3 := Tryz.sizeOf3
 v3 := Tryz.zeroValue3
 t9 := Tryz.underlying9
 a9 := Tryz.isAgg9
 z9 := Tryz.sizeOf9
 v9 := Tryz.zeroValue9
 t37 := Tryz.underlying127
 a37 := Tryz.isAgg127
 z37 := Tryz.sizeOf127
 v37 := Tryz.zeroValue127
 t70 := Tryz.underlying126
 a70 := Tryz.isAgg126
 z70 := Tryz.sizeOf126
 v70 := Tryz.zeroValue126
 t72 := Tryz.underlying129
 a72 := Tryz.isAgg129
 z72 := Tryz.sizeOf129
 v72 := Tryz.zeroValue129
 t127 := Tryz.underlying160
 a127 := Tryz.isAgg160
 z127 := Tryz.sizeOf160
 v127 := Tryz.zeroValue160 }
def Tryz.lays171_ren : Go.Shelf.Ren := ⟨fun | 171 => 46 | 243 => 68 | 246 => 87 | 283 => 110 | 284 => 111 | 285 => 112 | 286 => 113 | 129 => 141 | 317 => 142 | 318 => 143 | 319 => 144 | 320 => 145 | 337 => 172 | 338 => 173 | n => n, fun | 3 => 3 | 9 => 9 | 2 => 2 | 4 => 4 | 171 => 186 | 0 => 0 | 53 => 187 | 37 => 127 | 5 => 5 | 173 => 190 | 212 => 220 | 51 => 218 | 20 => 20 | 213 => 221 | 46 => 183 | 232 => 259 | 233 => 260 | n => n, fun | 17 => 6 | 18 => 9 | 19 => 10 | n => n⟩
theorem Tryz.lays171 : Go.Proofs.Lays.n171 Tryz.prog Tryz.lays171_ren := {
 mixed := by kernel_rfl
 f129 := Tryz.func141.trans (congrArg some (by kernel_rfl))
 f171 := Tryz.func46.trans (congrArg some (by kernel_rfl))
 f243 := Tryz.func68.trans (congrArg some (by kernel_rfl))
 f246 := Tryz.func87.trans (congrArg some (by kernel_rfl))
 f283 := Tryz.func110.trans (congrArg some (by kernel_rfl))
 f284 := Tryz.func111.trans (congrArg some (by kernel_rfl))
 f285 := Tryz.func112.trans (congrArg some (by kernel_rfl))
 f286 := Tryz.func113.trans (congrArg some (by kernel_rfl))
 f317 := Tryz.func142.trans (congrArg some (by kernel_rfl))
 f318 := Tryz.func143.trans (congrArg some (by kernel_rfl))
 f319 := Tryz.func144.trans (congrArg some (by kernel_rfl))
 f320 := Tryz.func145.trans (congrArg some (by kernel_rfl))
 f337 := Tryz.func172.trans (congrArg some (by kernel_rfl))
 f338 := Tryz.func173.trans (congrArg some (by kernel_rfl))
 t0 := Tryz.underlying0
 a0 := Tryz.isAgg0
 z0 := Tryz.sizeOf0
 v0 := Tryz.zeroValue0
 t2 := Tryz.underlying2
 a2 := Tryz.isAgg2
 z2 := Tryz.sizeOf2
 v2 := Tryz.zeroValue2
 t3 := Tryz.underlying3
 a3 := Tryz.isAgg3
 z3 := Tryz.sizeOf3
 v3 := Tryz.zeroValue3
 t4 := Tryz.underlying4
 a4 := Tryz.isAgg4
 z4 := Tryz.sizeOf4
 v4 := Tryz.zeroValue4
 t5 := Tryz.underlying5
 a5 := Tryz.isAgg5
 z5 := Tryz.sizeOf5
 v5 := Tryz.zeroValue5
 t9 := Tryz.underlying9
 a9 := Tryz.isAgg9
 z9 := Tryz.sizeOf9
 v9 := Tryz.zeroValue9
 t20 := Tryz.underlying20
 a20 := Tryz.isAgg20
 z20 := Tryz.sizeOf20
 v20 := Tryz.zeroValue20
 t37 := Tryz.underlying127
 a37 := Tryz.isAgg127
 z37 := Tryz.sizeOf127
 v37 := Tryz.zeroValue127
 t46 := Tryz.underlying183
 a46 := Tryz.isAgg183
 z46 := Tryz.sizeOf183
 v46 := Tryz.zeroValue183
 t51 := Tryz.underlying218
 a51 := Tryz.isAgg218
 z51 := Tryz.sizeOf218
 v51 := Tryz.zeroValue218
 t53 := Tryz.underlying187
 a53 := Tryz.isAgg187
 z53 := Tryz.sizeOf187
 v53 := Tryz.zeroValue187
 t171 := Tryz.underlying186
 a171 := Tryz.isAgg186
 z171 := Tryz.sizeOf186
 v171 := Tryz.zeroValue186
 t173 := Tryz.underlying190
 a173 := Tryz.isAgg190
 z173 := Tryz.sizeOf190
 v173 := Tryz.zeroValue190
 t212 := Tryz.underlying220
 a212 := Tryz.isAgg220
 z212 := Tryz.sizeOf220
 v212 := Tryz.zeroValue220
 t213 := Tryz.underlying221
 a213 := Tryz.isAgg221
 z213 := Tryz.sizeOf221
 t232 := Tryz.underlying259
 a232 := Tryz.isAgg259
 z232 := Tryz.sizeOf259
 v232 := Tryz.zeroValue259
 t233 := Tryz.underlying260
 a233 := Tryz.isAgg260
 z233 := Tryz.sizeOf260
 v233 := Tryz.zeroValue260
 g17 := by kernel_rfl
 g18 := by kernel_rfl
 g19 := by kernel_rfl }
def Tryz.laysM173_ren : Go.Shelf.Ren := ⟨fun | 173 => 131 | 246 => 87 | 283 => 110 | 284 => 111 | 285 => 112 | 286 => 113 | 129 => 141 | 317 => 142 | 318 => 143 | 319 => 144 | 320 => 145 | 337 => 172 | 338 => 173 | n => n, fun | 2 => 2 | 3 => 3 | 9 => 9 | 4 => 4 | 171 => 186 | 0 => 0 | 53 => 187 | 37 => 127 | 5 => 5 | 173 => 190 | 212 => 220 | 51 => 218 | 20 => 20 | 213 => 221 | 46 => 183 | 232 => 259 | 233 => 260 | n => n, fun | 17 => 6 | 18 => 9 | 19 => 10 | n => n⟩
theorem Tryz.laysM173 : Go.Proofs.LaysM.n173 Tryz.prog Tryz.laysM173_ren := {
 mixed := by kernel_rfl
 f129 := Tryz.func141.trans (congrArg some (by kernel_rfl))
 f173 := Tryz.func131.trans (congrArg some (by kernel_rfl))
 f246 := Tryz.func87.trans (congrArg some (by kernel_rfl))
 f283 := Tryz.func110.trans (congrArg some (by kernel_rfl))
 f284 := Tryz.func111.trans (congrArg some (by kernel_rfl))
 f285 := Tryz.func112.trans (congrArg some (by kernel_rfl))
 f286 := Tryz.func113.trans (congrArg some (by kernel_rfl))
 f317 := Tryz.func142.trans (congrArg some (by kernel_rfl))
 f318 := Tryz.func143.trans (congrArg some (by kernel_rfl))
 f319 := Tryz.func144.trans (congrArg some (by kernel_rfl))
 f320 := Tryz.func145.trans (congrArg some (by kernel_rfl))
 f337 := Tryz.func172.trans (congrArg some (by kernel_rfl))
 f338 := Tryz.func173.trans (congrArg some (by kernel_rfl))
 t0 := Tryz.underlying0
 a0 := Tryz.isAgg0
 z0 := Tryz.sizeOf0
 v0 := Tryz.zeroValue0
 t2 := Tryz.underlying2
 a2 := Tryz.isAgg2
 z2 := Tryz.sizeOf2
 v2 := Tryz.zeroValue2
 t3 := Tryz.underlying3
 a3 := Tryz.isAgg3
 z3 := Tryz.sizeOf3
 v3 := Tryz.zeroValue3
 t4 := Tryz.underlying4
 a4 := Tryz.isAgg4
 z4 := Tryz.sizeOf4
 v4 := Tryz.zeroValue4
 t5 := Tryz.underlying5
 a5 := Tryz.isAgg5
 z5 := Tryz.sizeOf5
 v5 := Tryz.zeroValue5
 t9 := Tryz.underlying9
 a9 := Tryz.isAgg9
 z9 := Tryz.sizeOf9
 v9 := Tryz.zeroValue9
 t20 := Tryz.underlying20
 a20 := Tryz.isAgg20
 z20 := Tryz.sizeOf20
 v20 := Tryz.zeroValue20
 t37 := Tryz.underlying127
 a37 := Tryz.isAgg127
 z37 := Tryz.sizeOf127
 v37 := Tryz.zeroValue127
 t46 := Tryz.underlying183
 a46 := Tryz.isAgg183
 z46 := Tryz.sizeOf183
 v46 := Tryz.zeroValue183
 t51 := Tryz.underlying218
 a51 := Tryz.isAgg218
 z51 := Tryz.sizeOf218
 v51 := Tryz.zeroValue218
 t53 := Tryz.underlying187
 a53 := Tryz.isAgg187
 z53 := Tryz.sizeOf187
 v53 := Tryz.zeroValue187
 t171 := Tryz.underlying186
 a171 := Tryz.isAgg186
 z171 := Tryz.sizeOf186
 v171 := Tryz.zeroValue186
 t173 := Tryz.underlying190
 a173 := Tryz.isAgg190
 z173 := Tryz.sizeOf190
 v173 := Tryz.zeroValue190
 t212 := Tryz.underlying220
 a212 := Tryz.isAgg220
 z212 := Tryz.sizeOf220
 v212 := Tryz.zeroValue220
 t213 := Tryz.underlying221
 a213 := Tryz.isAgg221
 z213 := Tryz.sizeOf221
 t232 := Tryz.underlying259
 a232 := Tryz.isAgg259
 z232 := Tryz.sizeOf259
 v232 := Tryz.zeroValue259
 t233 := Tryz.underlying260
 a233 := Tryz.isAgg260
 z233 := Tryz.sizeOf260
 v233 := Tryz.zeroValue260
 g17 := by kernel_rfl
 g18 := by kernel_rfl
 g19 := by kernel_rfl
 i0 := by kernel_rfl
 i2 := by kernel_rfl
 i3 := by kernel_rfl
 i4 := by kernel_rfl
 i5 := by kernel_rfl
 i9 := by kernel_rfl
 i20 := by kernel_rfl
 i37 := by kernel_rfl
 i46 := by kernel_rfl
 i51 := by kernel_rfl
 i53 := by kernel_rfl
 i171 := by kernel_rfl
 i173 := by kernel_rfl
 i212 := by kernel_rfl
 i232 := by kernel_rfl
 i233 := by kernel_rfl
 m17 := by kernel_rfl
 m18 := by kernel_rfl
 m19 := by kernel_rfl }
def Tryz.laysC174_ren : Go.Shelf.Ren := ⟨fun | 174 => 69 | 247 => 88 | 245 => 89 | 287 => 114 | 279 => 115 | 280 => 116 | 281 => 117 | 282 => 118 | 321 => 146 | 322 => 147 | 316 => 90 | 171 => 46 | 205 => 148 | 243 => 68 | 246 => 87 | 283 => 110 | 284 => 111 | 285 => 112 | 286 => 113 | 129 => 141 | 317 => 142 | 318 => 143 | 319 => 144 | 320 => 145 | 337 => 172 | 338 => 173 | n => n, fun | 9 => 9 | 3 => 3 | 2 => 2 | 75 => 131 | 85 => 136 | 4 => 4 | 167 => 192 | 5 => 5 | 53 => 187 | 175 => 193 | 46 => 183 | 168 => 195 | 37 => 127 | 0 => 0 | 210 => 225 | 21 => 21 | 127 => 160 | 145 => 250 | 143 => 248 | 171 => 186 | 173 => 190 | 212 => 220 | 51 => 218 | 20 => 20 | 213 => 221 | 232 => 259 | 233 => 260 | 80 => 101 | n => n, fun | 15 => 7 | 16 => 8 | 17 => 6 | 18 => 9 | 19 => 10 | n => n⟩
theorem Tryz.laysC174 : Go.Proofs.LaysC.n174 Tryz.prog Tryz.laysC174_ren := {
 mixed := by kernel_rfl
 f129 := Tryz.func141.trans (congrArg some (by kernel_rfl))
 f171 := Tryz.func46.trans (congrArg some (by kernel_rfl))
 f174 := Tryz.func69.trans (congrArg some (by kernel_rfl))
 f205 := Tryz.func148.trans (congrArg some (by kernel_rfl))
 f243 := Tryz.func68.trans (congrArg some (by kernel_rfl))
 f245 := Tryz.func89.trans (congrArg some (by kernel_rfl))
 f246 := Tryz.func87.trans (congrArg some (by kernel_rfl))
 f247 := Tryz.func88.trans (congrArg some (by kernel_rfl))
 f279 := Tryz.func115.trans (congrArg some (by kernel_rfl))
 f280 := Tryz.func116.trans (congrArg some (by kernel_rfl))
 f281 := Tryz.func117.trans (congrArg some (by kernel_rfl))
 f282 := Tryz.func118.trans (congrArg some (by kernel_rfl))
 f283 := Tryz.func110.trans (congrArg some (by kernel_rfl))
 f284 := Tryz.func111.trans (congrArg some (by kernel_rfl))
 f285 := Tryz.func112.trans (congrArg some (by kernel_rfl))
 f286 := Tryz.func113.trans (congrArg some (by kernel_rfl))
 f287 := Tryz.func114.trans (congrArg some (by kernel_rfl))
 f316 := Tryz.func90.trans (congrArg some (by kernel_rfl))
 f317 := Tryz.func142.trans (congrArg some (by kernel_rfl))
 f318 := Tryz.func143.trans (congrArg some (by kernel_rfl))
 f319 := Tryz.func144.trans (congrArg some (by kernel_rfl))
 f320 := Tryz.func145.trans (congrArg some (by kernel_rfl))
 f321 := Tryz.func146.trans (congrArg some (by kernel_rfl))
 f322 := Tryz.func147.trans (congrArg some (by kernel_rfl))
 f337 := Tryz.func172.trans (congrArg some (by kernel_rfl))
 f338 := Tryz.func173.trans (congrArg some (by kernel_rfl))
 t0 := Tryz.underlying0
 a0 := Tryz.isAgg0
 z0 := Tryz.sizeOf0
 v0 := Tryz.zeroValue0
 t2 := Tryz.underlying2
 a2 := Tryz.isAgg2
 z2 := Tryz.sizeOf2
 v2 := Tryz.zeroValue2
 t3 := Tryz.underlying3
 a3 := Tryz.isAgg3
 z3 := Tryz.sizeOf3
 v3 := Tryz.zeroValue3
 t4 := Tryz.underlying4
 a4 := Tryz.isAgg4
 z4 := Tryz.sizeOf4
 v4 := Tryz.zeroValue4
 t5 := Tryz.underlying5
 a5 := Tryz.isAgg5
 z5 := Tryz.sizeOf5
 v5 := Tryz.zeroValue5
 t9 := Tryz.underlying9
 a9 := Tryz.isAgg9
 z9 := Tryz.sizeOf9
 v9 := Tryz.zeroValue9
 t20 := Tryz.underlying20
 a20 := Tryz.isAgg20
 z20 := Tryz.sizeOf20
 v20 := Tryz.zeroValue20
 t21 := Tryz.underlying21
 a21 := Tryz.isAgg21
 z21 := Tryz.sizeOf21
 v21 := Tryz.zeroValue21
 t37 := Tryz.underlying127
 a37 := Tryz.isAgg127
 z37 := Tryz.sizeOf127
 v37 := Tryz.zeroValue127
 t46 := Tryz.underlying183
 a46 := Tryz.isAgg183
 z46 := Tryz.sizeOf183
 v46 := Tryz.zeroValue183
 t51 := Tryz.underlying218
 a51 := Tryz.isAgg218
 z51 := Tryz.sizeOf218
 v51 := Tryz.zeroValue218
 t53 := Tryz.underlying187
 a53 := Tryz.isAgg187
 z53 := Tryz.sizeOf187
 v53 := Tryz.zeroValue187
 t75 := Tryz.underlying131
 a75 := Tryz.isAgg131
 z75 := Tryz.sizeOf131
 v75 := Tryz.zeroValue131
 t85 := Tryz.underlying136
 a85 := Tryz.isAgg136
 z85 := Tryz.sizeOf136
 v85 := Tryz.zeroValue136
 t127 := Tryz.underlying160
 a127 := Tryz.isAgg160
 z127 := Tryz.sizeOf160
 v127 := Tryz.zeroValue160
 t143 := Tryz.underlying248
 a143 := Tryz.isAgg248
 z143 := Tryz.sizeOf248
 v143 := Tryz.zeroValue248
 t145 := Tryz.underlying250
 a145 := Tryz.isAgg250
 z145 := Tryz.sizeOf250
 v145 := Tryz.zeroValue250
 t167 := Tryz.underlying192
 a167 := Tryz.isAgg192
 z167 := Tryz.sizeOf192
 v167 := Tryz.zeroValue192
 t168 := Tryz.underlying195
 a168 := Tryz.isAgg195
 z168 := Tryz.sizeOf195
 v168 := Tryz.zeroValue195
 t171 := Tryz.underlying186
 a171 := Tryz.isAgg186
 z171 := Tryz.sizeOf186
 v171 := Tryz.zeroValue186
 t173 := Tryz.underlying190
 a173 := Tryz.isAgg190
 z173 := Tryz.sizeOf190
 v173 := Tryz.zeroValue190
 t175 := Tryz.underlying193
 a175 := Tryz.isAgg193
 z175 := Tryz.sizeOf193
 v175 := Tryz.zeroValue193
 t210 := Tryz.underlying225
 a210 := Tryz.isAgg225
 z210 := Tryz.sizeOf225
 v210 := Tryz.zeroValue225
 t212 := Tryz.underlying220
 a212 := Tryz.isAgg220
 z212 := Tryz.sizeOf220
 v212 := Tryz.zeroValue220
 t213 := Tryz.underlying221
 a213 := Tryz.isAgg221
 z213 := Tryz.sizeOf221
 t232 := Tryz.underlying259
 a232 := Tryz.isAgg259
 z232 := Tryz.sizeOf259
 v232 := Tryz.zeroValue259
 t233 := Tryz.underlying260
 a233 := Tryz.isAgg260
 z233 := Tryz.sizeOf260
 v233 := Tryz.zeroValue260
 g15 := by kernel_rfl
 g16 := by kernel_rfl
 g17 := by kernel_rfl
 g18 := by kernel_rfl
 g19 := by kernel_rfl
 t80 := Tryz.underlying101
 a80 := Tryz.isAgg101
 z80 := Tryz.sizeOf101
 v80 := Tryz.zeroValue101
 i0 := by kernel_rfl
 i2 := by kernel_rfl
 i3 := by kernel_rfl
 i4 := by kernel_rfl
 i5 := by kernel_rfl
 i9 := by kernel_rfl
 i20 := by kernel_rfl
 i21 := by kernel_rfl
 i37 := by kernel_rfl
 i46 := by kernel_rfl
 i51 := by kernel_rfl
 i53 := by kernel_rfl
 i75 := by kernel_rfl
 i80 := by kernel_rfl
 i85 := by kernel_rfl
 i127 := by kernel_rfl
 i143 := by kernel_rfl
 i145 := by kernel_rfl
 i167 := by kernel_rfl
 i168 := by kernel_rfl
 i171 := by kernel_rfl
 i173 := by kernel_rfl
 i175 := by kernel_rfl
 i210 := by kernel_rfl
 i212 := by kernel_rfl
 i232 := by kernel_rfl
 i233 := by kernel_rfl
 m15 := by kernel_rfl
 m16 := by kernel_rfl
 m17 := by kernel_rfl
 m18 := by kernel_rfl
 m19 := by kernel_rfl
 c0 := by kernel_rfl
 c2 := by kernel_rfl
 c3 := by kernel_rfl
 c4 := by kernel_rfl
 c5 := by kernel_rfl
 c9 := by kernel_rfl
 c20 := by kernel_rfl
 c21 := by kernel_rfl
 c37 := by kernel_rfl
 c46 := by kernel_rfl
 c51 := by kernel_rfl
 c53 := by kernel_rfl
 c75 := by kernel_rfl
 c80 := by kernel_rfl
 c85 := by kernel_rfl
 c127 := by kernel_rfl
 c143 := by kernel_rfl
 c145 := by kernel_rfl
 c167 := by kernel_rfl
 c168 := by kernel_rfl
 c171 := by kernel_rfl
 c173 := by kernel_rfl
 c175 := by kernel_rfl
 c210 := by kernel_rfl
 c212 := by kernel_rfl
 c213 := by kernel_rfl
 c232 := by kernel_rfl
 c233 := by kernel_rfl }
theorem Tryz.Builder_Extra_169 : Builder.Extra Tryz.prog Tryz.lays169_ren := {
 sizeBuilder := by kernel_rfl
 liesBuilder := by kernel_rfl
 t5 := Tryz.underlying5
 a5 := Tryz.isAgg5
 z5 := Tryz.sizeOf5
 v5 := Tryz.zeroValue5
 infoByte := by kernel_rfl
 cellsByte := by kernel_rfl
 sizeByte := by kernel_rfl
 neB5 := by decide }
open Go.RowKit in
theorem Tryz.Builder_String_any_k (B b : Nat) (l : List UInt8) (w : World) (h : Lib.IsBuilderF 129 5 B b (Lib.byteCells l) w) (hBw : B ≤ w.heap.size) :
  Calls Tryz.prog 65 #[.pointer (some ⟨b, 0, none⟩)] w fun e w' => e = .returned (.string ⟨l.toArray⟩) ∧ (Lib.IsBuilderF 129 5 B b (Lib.byteCells l) w' ∧ Below B w w' ∧ Lib.OthersKept 5 (some b) w w') := Any.Builder_String_any_k Tryz.lays169 Tryz.Builder_Extra_169 B b l w h hBw
open Go.RowKit Go.Sort Go.Lib in
theorem Tryz.strconv_Itoa_small (i : Nat) (hi : i < 100) (w : World) :
  Calls Tryz.prog 46 #[.int .i64 i] w fun e w' => e = .returned (.string ⟨(Lib.decDigits i).toArray⟩) ∧ w' = w := Any.strconv_Itoa_small Tryz.lays171 i hi w
open Go.RowKit Go.Sort Go.Lib in
theorem Tryz.strconv_FormatInt_10 (n : Int) (h0 : -9223372036854775808 ≤ n) (h1 : n ≤ 9223372036854775807) (w : World) (htab : Lib.TabIs Tryz.prog w "internal/strconv.uint64pow10" .u64 Lib.pow10Tab) :
  Calls Tryz.prog 131 #[.int .i64 n, .int .i64 10] w fun e w' => e = .returned (.string ⟨(Lib.itoa n).toArray⟩) ∧ ∃ k os, w' = grow (w.drewN k) os := Any.strconv_FormatInt_10 Tryz.laysM173 n h0 h1 w htab
open Go.RowKit in
theorem Tryz.strconv_ParseInt_10_at64_ok (s : ByteArray) (hmax : s.size ≤ 9223372036854775806) (v : Int) (h : Lib.parseIntB 64 s.data.toList = .ok v) (w : World) :
  Calls Tryz.prog 69 #[.string s, .int .i64 10, .int .i64 64] w fun e w' => e = .returned (.tuple #[.int .i64 v, .nilIface]) ∧ (w' = w ∨ ∃ t, w' = Lib.bytesWorld w 5 t) := Any.strconv_ParseInt_10_at64_ok Tryz.laysC174 s hmax v h w
open Go.RowKit in
theorem Tryz.strconv_ParseInt_10_at64_range_var (s : ByteArray) (hlim : s.size ≤ 281474976710656) (h : Lib.parseIntB 64 s.data.toList = .range) (tp : TypeId) (p : Value) (w : World) (hvar : w.var? Tryz.prog "strconv.ErrRange" = some #[.iface tp p]) :
  Calls Tryz.prog 69 #[.string s, .int .i64 10, .int .i64 64] w fun e w' => ∃ N, e = .returned (.tuple #[.int .i64 (Lib.intSat 64 s.data.toList), .iface 195 (.pointer (some ⟨N, 0, none⟩))]) ∧ w.heap.size ≤ N ∧ w'.heap[N]? = some (.cells #[.string ⟨#[80, 97, 114, 115, 101, 73, 110, 116]⟩, .string s, .iface tp p] 225 (0, 0)) ∧ Below w.heap.size w w' := Any.strconv_ParseInt_10_at64_range_var Tryz.laysC174 s hlim h tp p w hvar
def Tryz.lays166_ren : Go.Shelf.Ren := ⟨fun | 166 => 64 | 240 => 86 | 276 => 109 | n => n, fun | 37 => 127 | 70 => 126 | 72 => 129 | 75 => 131 | 80 => 101 | 164 => 184 | n => n, fun | n => n⟩
theorem Tryz.lays166 : Go.Proofs.Lays.n166 Tryz.prog Tryz.lays166_ren := {
 mixed := by kernel_rfl,
 f166 := Eq.trans Tryz.func64 (congrArg some (by kernel_rfl)),
 f240 := Eq.trans Tryz.func86 (congrArg some (by kernel_rfl)),
 f276 := Eq.trans Tryz.func109 (congrArg some (by kernel_rfl)),
 t0 := Tryz.underlying0,
 a0 := Tryz.isAgg0,
 z0 := Tryz.sizeOf0,
 v0 := Tryz.zeroValue0,
 t3 := Tryz.underlying3,
 a3 := Tryz.isAgg3,
 z3 := Tryz.sizeOf3,
 v3 := Tryz.zeroValue3,
 t4 := Tryz.underlying4,
 a4 := Tryz.isAgg4,
 z4 := Tryz.sizeOf4,
 v4 := Tryz.zeroValue4,
 t9 := Tryz.underlying9,
 a9 := Tryz.isAgg9,
 z9 := Tryz.sizeOf9,
 v9 := Tryz.zeroValue9,
 t20 := Tryz.underlying20,
 a20 := Tryz.isAgg20,
 z20 := Tryz.sizeOf20,
 v20 := Tryz.zeroValue20,
 t37 := Tryz.underlying127,
 a37 := Tryz.isAgg127,
 z37 := Tryz.sizeOf127,
 v37 := Tryz.zeroValue127,
 t70 := Tryz.underlying126,
 a70 := Tryz.isAgg126,
 z70 := Tryz.sizeOf126,
 v70 := Tryz.zeroValue126,
 t72 := Tryz.underlying129,
 a72 := Tryz.isAgg129,
 z72 := Tryz.sizeOf129,
 v72 := Tryz.zeroValue129,
 t75 := Tryz.underlying131,
 a75 := Tryz.isAgg131,
 z75 := Tryz.sizeOf131,
 v75 := Tryz.zeroValue131,
 t164 := Tryz.underlying184,
 a164 := Tryz.isAgg184,
 z164 := Tryz.sizeOf184,
 v164 := Tryz.zeroValue184 }
theorem Tryz.Builder_Extra_166 : Builder.Extra Tryz.prog Tryz.lays166_ren := {
 sizeBuilder := by kernel_rfl
 liesBuilder := by kernel_rfl
 t5 := Tryz.underlying5
 a5 := Tryz.isAgg5
 z5 := Tryz.sizeOf5
 v5 := Tryz.zeroValue5
 infoByte := by kernel_rfl
 cellsByte := by kernel_rfl
 sizeByte := by kernel_rfl
 neB5 := by decide }
open Go.RowKit in
theorem Tryz.Builder_WriteString_k (B b : Nat) (bs : List Value) (s : ByteArray) (w : World) (h : Lib.IsBuilderF 129 5 B b bs w) (hlen : bs.length + s.size ≤ 140737488355328) (hBw : B ≤ w.heap.size) :
  Calls Tryz.prog 64 #[.pointer (some ⟨b, 0, none⟩), .string s] w fun e w' => e = .returned (.tuple #[.int .i64 s.size, .nilIface]) ∧ (Lib.BuilderAtF 129 5 B b (.pointer (some ⟨b, 0, none⟩)) (bs ++ Lib.strCells s) w' ∧ Below B w w' ∧ Lib.OthersKept 5 (some b) w w') :=
 Any.Builder_WriteString_k Tryz.lays166 Tryz.Builder_Extra_166 B b bs s w h hlen hBw
def Tryz.laysM316_ren : Go.Shelf.Ren := ⟨fun | 316 => 90 | n => n, fun | 0 => 0 | 3 => 3 | 4 => 4 | 5 => 5 | 9 => 9 | 37 => 127 | 127 => 160 | n => n, fun | n => n⟩
theorem Tryz.laysM316 : Go.Proofs.LaysM.n316 Tryz.prog Tryz.laysM316_ren := {
 mixed := by kernel_rfl
 f316 := Tryz.func90.trans (congrArg some (by kernel_rfl))
 t0 := Tryz.underlying0
 a0 := Tryz.isAgg0
 z0 := Tryz.sizeOf0
 v0 := Tryz.zeroValue0
 t3 := Tryz.underlying3
 a3 := Tryz.isAgg3
 z3 := Tryz.sizeOf3
 v3 := Tryz.zeroValue3
 t4 := Tryz.underlying4
 a4 := Tryz.isAgg4
 z4 := Tryz.sizeOf4
 v4 := Tryz.zeroValue4
 t5 := Tryz.underlying5
 a5 := Tryz.isAgg5
 z5 := Tryz.sizeOf5
 v5 := Tryz.zeroValue5
 t9 := Tryz.underlying9
 a9 := Tryz.isAgg9
 z9 := Tryz.sizeOf9
 v9 := Tryz.zeroValue9
 t37 := Tryz.underlying127
 a37 := Tryz.isAgg127
 z37 := Tryz.sizeOf127
 v37 := Tryz.zeroValue127
 t127 := Tryz.underlying160
 a127 := Tryz.isAgg160
 z127 := Tryz.sizeOf160
 v127 := Tryz.zeroValue160
 i0 := by kernel_rfl
 i3 := by kernel_rfl
 i4 := by kernel_rfl
 i5 := by kernel_rfl
 i9 := by kernel_rfl
 i37 := by kernel_rfl
 i127 := by kernel_rfl
}
end Go.Proofs
namespace Go.Proofs.YtihgojcfpnhelabGreatDoor
open Go.RowKit
attribute [local go_sem] idx_eq app_eq
def spellW : List By := [[], [], [], [105, 102], [32, 97, 110, 100, 32], [32, 111, 114, 32], [110, 111, 116, 32], [116, 114, 117, 101], [102, 97, 108, 115, 101], [40], [41], [44, 32], [32, 43, 32], [32, 45, 32], [45], [32, 42, 32], [32, 47, 32], [32, 37, 32], [32, 61, 32], [32, 60, 32]]
def aheadW : List Int := [0, 0, 0, 0, 0, 0, 3, 0, 0, 0, 0, 0, 0, 6, 0, 0, 0, 0, 0, 0]
def betwW : List Int := [0, 0, 0, 0, 2, 1, 0, 0, 0, 0, 0, 0, 4, 4, 0, 5, 5, 5, 3, 3]
def ahdW : List By := [[], [], [], [105, 102, 40], [], [], [110, 111, 116, 32], [116, 114, 117, 101], [102, 97, 108, 115, 101], [40], [], [], [], [], [45], [], [], [], [], []]
def btwW : List By := [[], [], [], [44, 32], [32, 97, 110, 100, 32], [32, 111, 114, 32], [], [], [], [], [], [], [32, 43, 32], [32, 45, 32], [], [32, 42, 32], [32, 47, 32], [32, 37, 32], [32, 61, 32], [32, 60, 32]]
def bhdW : List By := [[], [], [], [41], [], [], [], [], [], [41], [], [], [], [], [], [], [], [], [], []]
def ahd (k : Nat) : By := ahdW.getD k []
def btw (k : Nat) : By := btwW.getD k []
def bhd (k : Nat) : By := bhdW.getD k []
def spellC : Array Value := ((List.range 20).flatMap fun k => [Value.string ⟨(ahd k).toArray⟩, .string ⟨(btw k).toArray⟩, .string ⟨(bhd k).toArray⟩]).toArray
def meanC : Array Value := (meanW.flatMap fun x => [Value.string ⟨x.1.toArray⟩, .int .i64 x.2]).toArray
def aheadC : Array Value := (aheadW.map fun x => Value.int .i64 x).toArray
def betwC : Array Value := (betwW.map fun x => Value.int .i64 x).toArray
structure Env (w : World) : Prop where
 spell : ∃ t fr, w.heap[5]? = some (.cells spellC t fr)
 mean : ∃ t fr, w.heap[1]? = some (.cells meanC t fr)
 ahead : ∃ t fr, w.heap[3]? = some (.cells aheadC t fr)
 betw : ∃ t fr, w.heap[4]? = some (.cells betwC t fr)
 range : ∃ tp p, w.var? Tryz.prog "strconv.ErrRange" = some #[.iface tp p]
 pow : Lib.TabIs Tryz.prog w "internal/strconv.uint64pow10" .u64 Lib.pow10Tab
 size : 11 ≤ w.heap.size
theorem gRange : Tryz.prog.globalNamed "strconv.ErrRange" = some 8 := by kernel_rfl
theorem gPow : Tryz.prog.globalNamed "internal/strconv.uint64pow10" = some 6 := by kernel_rfl
theorem var_below {w w' : World} {B g : Nat} {nm : String} (hb : Below B w w') (hg : Tryz.prog.globalNamed nm = some g) (hB : g < B) : w'.var? Tryz.prog nm = w.var? Tryz.prog nm := by
 unfold World.var?
 rw [hg]
 simp only [Option.bind_some]
 rw [hb.block g hB]
theorem Env.below {w w' : World} {B : Nat} (h : Env w) (hb : Below B w w') (hB : 11 ≤ B) : Env w' := by
 refine ⟨?_, ?_, ?_, ?_, ?_, ?_, Nat.le_trans h.size hb.size⟩
 ·rw [hb.block 5 (by omega)]; exact h.spell
 ·rw [hb.block 1 (by omega)]; exact h.mean
 ·rw [hb.block 3 (by omega)]; exact h.ahead
 ·rw [hb.block 4 (by omega)]; exact h.betw
 ·rw [var_below hb gRange (by omega)]; exact h.range
 ·exact (var_below hb gPow (by omega)).trans h.pow
theorem Env.next {w w' : World} (h : Env w) (hb : Below w.heap.size w w') : Env w' := h.below hb h.size
theorem mean_idx (k : Nat) (h : k < 16) (w : World) : (Instr.index 139 (.agg meanC) (.int .i64 (k : Int))).run Tryz.prog w = .ok (.agg #[.string ⟨((meanW[k]'h).1).toArray⟩, .int .i64 (meanW[k]'h).2]) w := by
 rcases (show k = 0 ∨ k = 1 ∨ k = 2 ∨ k = 3 ∨ k = 4 ∨ k = 5 ∨ k = 6 ∨ k = 7 ∨ k = 8 ∨ k = 9 ∨ k = 10 ∨ k = 11 ∨ k = 12 ∨ k = 13 ∨ k = 14 ∨ k = 15 by omega) with h | h | h | h | h | h | h | h | h | h | h | h | h | h | h | h <;> subst h <;> kernel_rfl
theorem meanIn_at (l : List (By × Int)) (t : By) (k : Nat) (h : k < l.length) (h1 : ∀ j (hj : j < l.length), j < k → l[j].1 ≠ t) (h2 : l[k].1 = t) : meanIn l t = some l[k].2 := by
 induction l generalizing k with
 | nil => simp at h
 | cons x l ih =>
  obtain ⟨y, z⟩ := x
  cases k with
  | zero =>
   simp at h2
   simp [meanIn, h2]
  | succ k =>
   have h0 : y ≠ t := h1 0 (by simp) (by omega)
   simp only [meanIn, if_neg h0]
   have := ih k (by simpa using h) (fun j hj hjk => h1 (j + 1) (by simpa using hj) (by omega)) (by simpa using h2)
   simpa using this
theorem meanIn_none (l : List (By × Int)) (t : By) (h1 : ∀ j (hj : j < l.length), l[j].1 ≠ t) : meanIn l t = none := by
 induction l with
 | nil => rfl
 | cons x l ih =>
  obtain ⟨y, z⟩ := x
  have h0 : y ≠ t := h1 0 (by simp)
  simp only [meanIn, if_neg h0]
  exact ih fun j hj => h1 (j + 1) (by simpa using hj)
theorem meaning28 (t : By) (w : World) (hE : Env w) :
  Calls Tryz.prog 52 #[.string ⟨t.toArray⟩] w fun e w' => e = .returned (.tuple #[.int .i64 ((meanB t).getD 0), .bool (meanB t).isSome]) ∧ Below w.heap.size w w' := by
 obtain ⟨tt, fr, hm⟩ := hE.mean
 have HM := tZ hm
 clear hm hE
 go_enter Tryz.func52, Tryz.ntmps52
 go_wp2_with (refine wpList_load_row rfl 139 _ rfl 1 rfl tt _ fr _ HM.out Tryz.underlying139 rfl (by kernel_rfl) ?_)
 go_loopw [7] (fun i wr => ∃ k : Nat, k ≤ 16 ∧ i = .int .i64 (k : Int) ∧ Below w.heap.size w wr ∧ Hid (∀ j (hj : j < 16), j < k → (meanW[j]'hj).1 ≠ t)) (fun i _ => 16 - (intOf i).toNat)
 case atStart => exact ⟨0, by omega, rfl, Below.refl _ _, fun _ _ h => by omega⟩
 case round =>
  obtain ⟨k, hk, rfl, hb, HN⟩ := hrel
  have hsz := hb.size
  by_cases hlt : k < 16
  ·have hix := mean_idx k hlt
   by_cases he : (meanW[k]'hlt).1 = t
   ·have heb : ((meanW[k]'hlt).1 == t) = true := by simp [he]
    have HR := tZ (show meanB t = some (meanW[k]'hlt).2 from meanIn_at meanW t k hlt (fun j hj hjk => HN.out j hj hjk) he)
    clear he
    generalize (meanW[k]'hlt).1 = x at *
    generalize (meanW[k]'hlt).2 = z at *
    go_wp2
    go_ret2
    exact ⟨by rw [HR.out]; rfl, hb.alloc hsz _⟩
   ·have heb : ((meanW[k]'hlt).1 == t) = false := beq_eq_false_iff_ne.2 he
    have HN2 := tZ (show ∀ j (hj : j < 16), j < k + 1 → (meanW[j]'hj).1 ≠ t from fun j hj hjk => by
     rcases Nat.lt_or_ge j k with h1 | h1
     ·exact HN.out j hj h1
     ·obtain rfl : j = k := by omega
      exact he)
    clear he
    generalize (meanW[k]'hlt).1 = x at *
    generalize (meanW[k]'hlt).2 = z at *
    go_wp2
    go_roundw
    case rel => exact ⟨k + 1, by omega, by go_num, hb.alloc hsz _, HN2⟩
    case measure => simp [intOf]; omega
  ·go_wp2
   go_ret2
   have HR : meanB t = none := meanIn_none meanW t fun j hj => HN.out j hj (by have : j < 16 := hj; omega)
   exact ⟨by rw [HR]; rfl, hb⟩
end Go.Proofs.YtihgojcfpnhelabGreatDoor
namespace Go.Proofs.YtihgojcfpnhelabGreatDoor
open Go.RowKit
def AllD (l : By) : Prop := ∀ x, x ∈ l → isD x = true
def stepD (n : Nat) (c : UInt8) : Nat := 10 * n + (c.toNat - 48)
theorem valD_eq (l : By) : valD l = l.foldl stepD 0 := rfl
theorem fold_ge (l : By) (a : Nat) : a ≤ l.foldl stepD a := by
 induction l generalizing a with
 | nil => simp
 | cons c l ih =>
  rw [List.foldl_cons]
  exact Nat.le_trans (by unfold stepD; omega) (ih (stepD a c))
theorem parseM (l : By) (a M : Nat) (hM : M = 18446744073709551615) (hD : AllD l) (ha : a ≤ M) :
  Lib.parseUintM M a l = if l.foldl stepD a ≤ M then .ok (l.foldl stepD a) else .range := by
 induction l generalizing a with
 | nil => simp [Lib.parseUintM, ha]
 | cons c l ih =>
  have hc := isD_range (hD c (by simp))
  have hl : AllD l := fun x hx => hD x (by simp [hx])
  rw [List.foldl_cons]
  unfold Lib.parseUintM
  rw [if_pos hc]
  have hs : stepD a c = a * 10 + (c.toNat - 48) := by unfold stepD; omega
  have hge := fold_ge l (stepD a c)
  by_cases h1 : 1844674407370955162 ≤ a
  ·rw [if_pos h1, if_neg (by omega)]
  ·rw [if_neg h1]
   by_cases h2 : M < a * 10 + (c.toNat - 48)
   ·rw [if_pos h2, if_neg (by omega)]
   ·rw [if_neg h2, ← hs]
    exact ih _ hl (by omega)
theorem parse64 (c : UInt8) (r : By) (hD : AllD (c :: r)) :
  Lib.parseIntB 64 (c :: r) = if valD (c :: r) ≤ top63 then .ok (valD (c :: r) : Int) else .range := by
 have hc := isD_range (hD c (by simp))
 rw [Lib.parseIntB_plain 64 c r (by omega) (by omega)]
 unfold Lib.parseUintB
 rw [if_neg (by simp), parseM (c :: r) 0 (2 ^ 64 - 1) (by decide +kernel) hD (by omega), ← valD_eq]
 have e1 : (2 : Nat) ^ 64 - 1 = 18446744073709551615 := by decide +kernel
 have e2 : (2 : Nat) ^ (64 - 1) = 9223372036854775808 := by decide +kernel
 rw [e1, e2]
 unfold top63
 by_cases h : valD (c :: r) ≤ 18446744073709551615
 ·rw [if_pos h]
  unfold Lib.signlessC
  by_cases h2 : 9223372036854775808 ≤ valD (c :: r)
  ·simp only [if_pos h2]
   rw [if_neg (by omega)]
  ·simp only [if_neg h2]
   rw [if_pos (by omega)]
 ·rw [if_neg h, if_neg (by omega)]
  rfl
theorem digit_back {c : UInt8} (h : isD c = true) : UInt8.ofNat (48 + (c.toNat - 48)) = c := by
 have := isD_range h
 rw [show 48 + (c.toNat - 48) = c.toNat by omega]
 simp
theorem fold_snoc (l : By) (x : UInt8) (a : Nat) : (l ++ [x]).foldl stepD a = 10 * l.foldl stepD a + (x.toNat - 48) := by
 simp [stepD]
theorem dec_plain (n : Nat) : ∀ (c : UInt8) (r : By), r.length = n → AllD (c :: r) → c ≠ 48 → Lib.decDigits (valD (c :: r)) = c :: r := by
 induction n with
 | zero =>
  intro c r hr hD hc
  obtain rfl := List.length_eq_zero_iff.1 hr
  have h := isD_range (hD c (by simp))
  rw [valD_eq]
  show Lib.decDigits (stepD 0 c) = [c]
  rw [Lib.decDigits_one (by unfold stepD; omega), show stepD 0 c = c.toNat - 48 by unfold stepD; omega, digit_back (hD c (by simp))]
 | succ n ih =>
  intro c r hr hD hc
  have hne : r ≠ [] := by intro h; rw [h] at hr; simp at hr
  obtain ⟨r', x, rfl⟩ : ∃ r' x, r = r' ++ [x] := ⟨r.dropLast, r.getLast hne, (List.dropLast_concat_getLast hne).symm⟩
  have hr' : r'.length = n := by simpa using hr
  have hD' : AllD (c :: r') := fun y hy => hD y (by simp at hy ⊢; rcases hy with h | h <;> simp [h])
  have hx := hD x (by simp)
  have hxr := isD_range hx
  have ihh := ih c r' hr' hD' hc
  have hval : valD (c :: (r' ++ [x])) = 10 * valD (c :: r') + (x.toNat - 48) := by
   rw [valD_eq, valD_eq, ← List.cons_append, fold_snoc]
  have hpos : 1 ≤ valD (c :: r') := by
   rw [valD_eq, List.foldl_cons]
   refine Nat.le_trans ?_ (fold_ge r' (stepD 0 c))
   have hc2 := isD_range (hD c (by simp))
   have : c.toNat ≠ 48 := by
    intro h
    apply hc
    apply UInt8.toNat_inj.1
    simpa using h
   unfold stepD
   omega
  rw [hval, Lib.decDigits, dif_neg (by omega), show (10 * valD (c :: r') + (x.toNat - 48)) / 10 = valD (c :: r') by omega, show (10 * valD (c :: r') + (x.toNat - 48)) % 10 = x.toNat - 48 by omega, ihh, digit_back hx]
  rfl
theorem dec_short (l : By) (hne : l ≠ []) (hD : AllD l) : Lib.decDigits (valD l) = shortB l := by
 induction l with
 | nil => exact absurd rfl hne
 | cons c r ih =>
  match r, ih, hD with
  | [], _, hD =>
   have h := isD_range (hD c (by simp))
   show Lib.decDigits (stepD 0 c) = [c]
   rw [Lib.decDigits_one (by unfold stepD; omega), show stepD 0 c = c.toNat - 48 by unfold stepD; omega, digit_back (hD c (by simp))]
  | d :: r, ih, hD =>
   by_cases hc : c = 48
   ·subst hc
    have hv : valD (48 :: d :: r) = valD (d :: r) := rfl
    have hs : shortB (48 :: d :: r) = shortB (d :: r) := by
     have := hD d (by simp)
     simp [shortB, this]
    rw [hv, hs]
    exact ih (by simp) fun x hx => hD x (by simp at hx ⊢; rcases hx with h | h <;> simp [h])
   ·have hs : shortB (c :: d :: r) = c :: d :: r := by simp [shortB, hc]
    rw [hs]
    exact dec_plain _ c (d :: r) rfl hD hc
theorem parse_ok (c : UInt8) (r : By) (w : World) (hl : r.length ≤ 1000) (hD : AllD (c :: r)) (hv : valD (c :: r) ≤ top63) :
  Calls Tryz.prog 69 #[.string ⟨(c :: r).toArray⟩, .int .i64 10, .int .i64 64] w fun e w' => e = .returned (.tuple #[.int .i64 (valD (c :: r) : Int), .nilIface]) ∧ Below w.heap.size w w' :=
 (Tryz.strconv_ParseInt_10_at64_ok ⟨(c :: r).toArray⟩ (by show (c :: r).length ≤ 9223372036854775806; simp; omega) (valD (c :: r) : Int) ((parse64 c r hD).trans (if_pos hv)) w).mono fun e w' h => ⟨h.1, by
  rcases h.2 with rfl | ⟨t, rfl⟩
  ·exact Below.refl _ _
  ·exact Lib.bytesWorld_below _ _ _⟩
theorem parse_range (c : UInt8) (r : By) (w : World) (hE : Env w) (hl : r.length ≤ 1000) (hD : AllD (c :: r)) (hv : ¬ valD (c :: r) ≤ top63) :
  Calls Tryz.prog 69 #[.string ⟨(c :: r).toArray⟩, .int .i64 10, .int .i64 64] w fun e w' => ∃ z N, e = .returned (.tuple #[.int .i64 z, .iface 195 (.pointer (some ⟨N, 0, none⟩))]) ∧ Below w.heap.size w w' := by
 obtain ⟨tp, p, hvar⟩ := hE.range
 exact (Tryz.strconv_ParseInt_10_at64_range_var ⟨(c :: r).toArray⟩ (by show (c :: r).length ≤ 281474976710656; simp; omega) ((parse64 c r hD).trans (if_neg hv)) tp p w hvar).mono fun e w' h => by
  obtain ⟨N, he, _, _, hb⟩ := h
  exact ⟨_, N, he, hb⟩
theorem below_growN (w : World) (k : Nat) (os : Array Obj) : Below w.heap.size w (Sort.grow (w.drewN k) os) := by
 refine ⟨rfl, rfl, rfl, ?_, fun j hj => ?_⟩
 ·show w.heap.size ≤ (w.heap ++ os).size
  simp
 ·show (w.heap ++ os)[j]? = w.heap[j]?
  rw [Array.getElem?_append_left hj]
theorem format41 (n : Nat) (w : World) (hE : Env w) (hn : n ≤ top63) :
  Calls Tryz.prog 131 #[.int .i64 (n : Int), .int .i64 10] w fun e w' => e = .returned (.string ⟨(Lib.decDigits n).toArray⟩) ∧ Below w.heap.size w w' :=
 (Tryz.strconv_FormatInt_10 (n : Int) (by omega) (by unfold top63 at hn; omega) w hE.pow).mono fun e w' h => by
  obtain ⟨he, k, os, rfl⟩ := h
  rw [Lib.itoa_nonneg] at he
  exact ⟨he, below_growN w k os⟩
theorem bcell {W w1 : World} (hb : Below W.heap.size W w1) : (∀ b o, b < W.heap.size → w1.cell? ⟨b, o, none⟩ = W.cell? ⟨b, o, none⟩) ∧ (∀ b o, b < W.heap.size → w1.frozen? ⟨b, o, none⟩ = W.frozen? ⟨b, o, none⟩) :=
 ⟨fun b o h => hb.cell (p := ⟨b, o, none⟩) h, fun b o h => hb.frozen (p := ⟨b, o, none⟩) h⟩
def TkPost (w : World) (k : Int) (x : By) (nn : Int) (ok : Bool) (e : Ending) (w' : World) : Prop :=
 e = .returned (.tuple #[.agg #[.int .i64 k, .int .i64 0, .string ⟨x.toArray⟩, .int .i64 nn], .bool ok]) ∧ Below w.heap.size w w'
theorem number_range (c : UInt8) (r : By) (w : World) (hE : Env w) (hl : r.length ≤ 1000) (hD : AllD (c :: r)) (hv : ¬ valD (c :: r) ≤ top63) :
  Calls Tryz.prog 50 #[.string ⟨(c :: r).toArray⟩] w (TkPost w 0 [] 0 false) := by
 have HD := tZ hD
 have HV := tZ hv
 have HE := tZ hE
 clear hD hv hE
 go_enter Tryz.func50, Tryz.ntmps50
 go_wp2_with (first | (go_at_call 69; refine (parse_range c r _ (HE.out.next (bZ _)) hl HD.out HV.out).mono ?_; rintro e w1 ⟨z, N, rfl, hb1⟩; refine Hid.out ?_))
 refine tZ ?_
 obtain ⟨hc, hf⟩ := bcell hb1
 have hz : w.heap.size < w1.heap.size := by have := hb1.size; simp at this; omega
 go_wp2
 exact bodyPost_ret (v := .tuple #[.agg #[.int .i64 0, .int .i64 0, .string ⟨#[]⟩, .int .i64 0], .bool false]) (by simp [results, Tryz.results50, go_sem, hc]) rfl ⟨rfl, (((((bZ _).trans (hb1.mono (by simp))).setCell (Nat.le_refl _) _).setCell (Nat.le_refl _) _).setCell (Nat.le_refl _) _).setCell (Nat.le_refl _) _⟩
theorem number_long (c : UInt8) (r : By) (w : World) (hl : r.length ≤ 1000) (hD : AllD (c :: r)) (hv : valD (c :: r) ≤ top63) (hlen : 19 < r.length + 1) :
  Calls Tryz.prog 50 #[.string ⟨(c :: r).toArray⟩] w (TkPost w 0 [] 0 false) := by
 have HD := tZ hD
 have HV := tZ hv
 clear hD hv
 go_enter Tryz.func50, Tryz.ntmps50
 go_wp2_with (first | (go_at_call 69; refine (parse_ok c r _ hl HD.out HV.out).mono ?_; rintro e w1 ⟨rfl, hb1⟩; refine Hid.out ?_))
 refine tZ ?_
 obtain ⟨hc, hf⟩ := bcell hb1
 have hz : w.heap.size < w1.heap.size := by have := hb1.size; simp at this; omega
 go_wp2
 exact bodyPost_ret (v := .tuple #[.agg #[.int .i64 0, .int .i64 0, .string ⟨#[]⟩, .int .i64 0], .bool false]) (by simp [results, Tryz.results50, go_sem, hc]) rfl ⟨rfl, (((((bZ _).trans (hb1.mono (by simp))).setCell (Nat.le_refl _) _).setCell (Nat.le_refl _) _).setCell (Nat.le_refl _) _).setCell (Nat.le_refl _) _⟩
theorem number_ok (c : UInt8) (r : By) (w : World) (hl : r.length ≤ 1000) (hD : AllD (c :: r)) (hv : valD (c :: r) ≤ top63) (hlen : ¬ 19 < r.length + 1) :
  Calls Tryz.prog 50 #[.string ⟨(c :: r).toArray⟩] w (TkPost w 1 [] (valD (c :: r) : Int) true) := by
 have HD := tZ hD
 have HV := tZ hv
 clear hD hv
 generalize hV : valD (c :: r) = V at *
 have HVV := tZ hV
 clear hV
 go_enter Tryz.func50, Tryz.ntmps50
 go_wp2_with (first | (go_at_call 69; refine (parse_ok c r _ hl HD.out (HVV.out ▸ HV.out)).mono ?_; rw [HVV.out]; rintro e w1 ⟨rfl, hb1⟩; refine Hid.out ?_))
 refine tZ ?_
 obtain ⟨hc, hf⟩ := bcell hb1
 have hz : w.heap.size < w1.heap.size := by have := hb1.size; simp at this; omega
 go_wp2
 exact bodyPost_ret (v := .tuple #[.agg #[.int .i64 1, .int .i64 0, .string ⟨#[]⟩, .int .i64 (V : Int)], .bool true]) (by simp [results, Tryz.results50, go_sem, hc]) rfl ⟨rfl, (((((bZ _).trans (hb1.mono (by simp))).setCell (Nat.le_refl _) _).setCell (Nat.le_refl _) _).setCell (Nat.le_refl _) _).setCell (Nat.le_refl _) _⟩
end Go.Proofs.YtihgojcfpnhelabGreatDoor
namespace Go.Proofs.YtihgojcfpnhelabGreatDoor
open Go.RowKit
attribute [local go_sem] idx_eq app_eq
theorem word_long (c : UInt8) (r : By) (w : World) (hl : r.length ≤ 1000) (hlen : 6 < r.length + 1) :
  Calls Tryz.prog 51 #[.string ⟨(c :: r).toArray⟩] w (TkPost w 0 [] 0 false) := by
 go_enter Tryz.func51, Tryz.ntmps51
 go_wp2
 exact bodyPost_ret (v := .tuple #[.agg #[.int .i64 0, .int .i64 0, .string ⟨#[]⟩, .int .i64 0], .bool false]) (by simp [results, Tryz.results51, go_sem]) rfl ⟨rfl, (Below.refl _ _).alloc (Nat.le_refl _) _⟩
theorem word_mean (c : UInt8) (r : By) (w : World) (hE : Env w) (hl : ¬ 6 < r.length + 1) (k : Int) (hm : meanB (c :: r) = some k) :
  Calls Tryz.prog 51 #[.string ⟨(c :: r).toArray⟩] w (TkPost w k [] 0 true) := by
 have HE := tZ hE
 have HM := tZ hm
 clear hE hm
 go_enter Tryz.func51, Tryz.ntmps51
 go_wp2_with (first | (go_at_call 52; refine (meaning28 (c :: r) _ (HE.out.next (bZ _))).mono ?_; rw [HM.out]; rintro e w1 ⟨rfl, hb1⟩; refine Hid.out ?_))
 refine tZ ?_
 obtain ⟨hc, hf⟩ := bcell hb1
 have hz : w.heap.size < w1.heap.size := by have := hb1.size; simp at this; omega
 go_wp2
 exact bodyPost_ret (v := .tuple #[.agg #[.int .i64 k, .int .i64 0, .string ⟨#[]⟩, .int .i64 0], .bool true]) (by simp [results, Tryz.results51, go_sem, hc]) rfl ⟨rfl, (((((bZ _).trans (hb1.mono (by simp))).setCell (Nat.le_refl _) _).setCell (Nat.le_refl _) _).setCell (Nat.le_refl _) _).setCell (Nat.le_refl _) _⟩
theorem clone42 (s : By) (w : World) (hl : s.length ≤ 1000) :
  Calls Tryz.prog 70 #[.string ⟨s.toArray⟩] w fun e w' => e = .returned (.string ⟨s.toArray⟩) ∧ Below w.heap.size w w' := by
 have H := tZ (fun w => Go.Proofs.Any.stringslite_Clone Tryz.laysM316 ⟨s.toArray⟩ w (by show s.length ≤ 281474976710656; omega))
 go_enter Tryz.func70, Tryz.ntmps70
 go_wp2_with (first | (go_at_call 90; refine (H.out _).mono ?_; rintro e w1 ⟨rfl, hb1⟩))
 go_ret
 exact ⟨rfl, hb1⟩
theorem word_name (c : UInt8) (r : By) (w : World) (hE : Env w) (hl : ¬ 6 < r.length + 1) (hm : meanB (c :: r) = none) :
  Calls Tryz.prog 51 #[.string ⟨(c :: r).toArray⟩] w (TkPost w 2 (c :: r) 0 true) := by
 have HE := tZ hE
 have HM := tZ hm
 have HL := tZ (show (c :: r).length ≤ 1000 by simp; omega)
 clear hE hm
 go_enter Tryz.func51, Tryz.ntmps51
 go_wp2_with (first | (go_at_call 52; refine (meaning28 (c :: r) _ (HE.out.next (bZ _))).mono ?_; rw [HM.out]; rintro e w1 ⟨rfl, hb1⟩; refine Hid.out ?_))
 refine tZ ?_
 go_wp2_with (first | (go_at_call 70; refine (clone42 (c :: r) _ HL.out).mono ?_; rintro e w2 ⟨rfl, hb2⟩; refine Hid.out ?_))
 refine tZ ?_
 have hb12 := hb1.trans (hb2.mono hb1.size)
 obtain ⟨hc, hf⟩ := bcell hb12
 have hz : w.heap.size < w2.heap.size := by have := hb12.size; simp at this; omega
 go_wp2
 exact bodyPost_ret (v := .tuple #[.agg #[.int .i64 2, .int .i64 0, .string ⟨(c :: r).toArray⟩, .int .i64 0], .bool true]) (by simp [results, Tryz.results51, go_sem, hc]) rfl ⟨rfl, (((((bZ _).trans (hb12.mono (by simp))).setCell (Nat.le_refl _) _).setCell (Nat.le_refl _) _).setCell (Nat.le_refl _) _).setCell (Nat.le_refl _) _⟩
def nmB (t : By) : By := if headD t then [] else textB t
def nuB (t : By) : Nat := if headD t then valD t else 0
def tokP (row : By) : Int × By × Nat × Bool := if tokOK row then (kindB row, nmB row, nuB row, true) else (0, [], 0, false)
theorem sign_mean (c : UInt8) (r : By) (hL : isL c = false) : (meanB (c :: r)).isSome = inB (c :: r) signW := by
 by_cases h : inB (c :: r) signW = true
 ·rw [h]
  simp only [inB, signW, List.contains_iff_mem, List.mem_cons, List.not_mem_nil, or_false] at h
  rcases h with h | h | h | h | h | h | h | h | h | h <;> rw [h] <;> decide
 ·have h' : inB (c :: r) signW = false := by simpa using h
  rw [h']
  have : meanB (c :: r) = none := by
   apply meanIn_none
   intro j hj he
   have hmem : (meanW[j]) ∈ meanW := List.getElem_mem hj
   have key : ∀ x, x ∈ meanW → x.1 = c :: r → False := by
    intro x hx hxe
    simp only [meanW, List.mem_cons, List.not_mem_nil, or_false] at hx
    have hcl : ∀ d s, d :: s = c :: r → isL d = true → False := by
     intro d s h1 h2
     simp at h1
     rw [h1.1, hL] at h2
     cases h2
    have hcs : ∀ s, s = c :: r → s ∈ signW → False := by
     intro s h1 h2
     apply h
     rw [← h1]
     simpa [inB] using h2
    rcases hx with rfl | rfl | rfl | rfl | rfl | rfl | rfl | rfl | rfl | rfl | rfl | rfl | rfl | rfl | rfl | rfl
    ·exact hcl _ _ hxe (by decide)
    ·exact hcl _ _ hxe (by decide)
    ·exact hcl _ _ hxe (by decide)
    ·exact hcl _ _ hxe (by decide)
    ·exact hcl _ _ hxe (by decide)
    ·exact hcl _ _ hxe (by decide)
    all_goals exact hcs _ hxe (by decide)
   exact key _ hmem he
  rw [this]
  rfl
theorem from_D (c : UInt8) (r : By) (w : World) (k : Int) (x : By) (nn : Int) (ok : Bool) (hD : isD c = true) (hN : ∀ w', Below w.heap.size w w' → Calls Tryz.prog 50 #[.string ⟨(c :: r).toArray⟩] w' (TkPost w' k x nn ok)) :
  Calls Tryz.prog 34 #[.string ⟨(c :: r).toArray⟩] w (TkPost w k x nn ok) := by
 have hD' : digB (c.toNat : Int) = true := hD
 have HN := tZ hN
 clear hN hD
 go_enter Tryz.func34, Tryz.ntmps34
 go_wp2_with (first | (go_at_call 47; refine (isDigit23 (c.toNat : Int) _).mono ?_; rintro e w' ⟨rfl, rfl⟩) | (go_at_call 50; refine (HN.out _ (bZ _)).mono ?_; rintro e w1 ⟨rfl, hb1⟩; refine Hid.out ?_))
 refine tZ ?_
 obtain ⟨hc, hf⟩ := bcell hb1
 have hz : w.heap.size < w1.heap.size := by have := hb1.size; simp at this; omega
 go_wp2
 exact bodyPost_ret (v := .tuple #[.agg #[.int .i64 k, .int .i64 0, .string ⟨x.toArray⟩, .int .i64 nn], .bool ok]) (by simp [results, Tryz.results34, go_sem, hc]) rfl ⟨rfl, (((((bZ _).trans (hb1.mono (by simp))).setCell (Nat.le_refl _) _).setCell (Nat.le_refl _) _).setCell (Nat.le_refl _) _).setCell (Nat.le_refl _) _⟩
theorem from_L (c : UInt8) (r : By) (w : World) (k : Int) (x : By) (nn : Int) (ok : Bool) (hD : isD c = false) (hL : isL c = true) (hN : ∀ w', Below w.heap.size w w' → Calls Tryz.prog 51 #[.string ⟨(c :: r).toArray⟩] w' (TkPost w' k x nn ok)) :
  Calls Tryz.prog 34 #[.string ⟨(c :: r).toArray⟩] w (TkPost w k x nn ok) := by
 have hD' : digB (c.toNat : Int) = false := hD
 have hL' : letB (c.toNat : Int) = true := hL
 have HN := tZ hN
 clear hN hD hL
 go_enter Tryz.func34, Tryz.ntmps34
 go_wp2_with (first | (go_at_call 47; refine (isDigit23 (c.toNat : Int) _).mono ?_; rintro e w' ⟨rfl, rfl⟩) | (go_at_call 48; refine (isLetter24 (c.toNat : Int) _).mono ?_; rintro e w' ⟨rfl, rfl⟩) | (go_at_call 51; refine (HN.out _ (bZ _)).mono ?_; rintro e w1 ⟨rfl, hb1⟩; refine Hid.out ?_))
 refine tZ ?_
 obtain ⟨hc, hf⟩ := bcell hb1
 have hz : w.heap.size < w1.heap.size := by have := hb1.size; simp at this; omega
 go_wp2
 exact bodyPost_ret (v := .tuple #[.agg #[.int .i64 k, .int .i64 0, .string ⟨x.toArray⟩, .int .i64 nn], .bool ok]) (by simp [results, Tryz.results34, go_sem, hc]) rfl ⟨rfl, (((((bZ _).trans (hb1.mono (by simp))).setCell (Nat.le_refl _) _).setCell (Nat.le_refl _) _).setCell (Nat.le_refl _) _).setCell (Nat.le_refl _) _⟩
theorem from_N (c : UInt8) (r : By) (w : World) (hE : Env w) (hD : isD c = false) (hL : isL c = false) :
  Calls Tryz.prog 34 #[.string ⟨(c :: r).toArray⟩] w (TkPost w ((meanB (c :: r)).getD 0) [] 0 (meanB (c :: r)).isSome) := by
 have hD' : digB (c.toNat : Int) = false := hD
 have hL' : letB (c.toNat : Int) = false := hL
 have HE := tZ hE
 clear hE hD hL
 generalize hk : (meanB (c :: r)).getD 0 = k
 generalize hb : (meanB (c :: r)).isSome = b
 have HK := tZ hk
 have HB := tZ hb
 clear hk hb
 go_enter Tryz.func34, Tryz.ntmps34
 go_wp2_with (first | (go_at_call 47; refine (isDigit23 (c.toNat : Int) _).mono ?_; rintro e w' ⟨rfl, rfl⟩) | (go_at_call 48; refine (isLetter24 (c.toNat : Int) _).mono ?_; rintro e w' ⟨rfl, rfl⟩) | (go_at_call 52; refine (meaning28 (c :: r) _ (HE.out.next (bZ _))).mono ?_; rw [HK.out, HB.out]; rintro e w1 ⟨rfl, hb1⟩; refine Hid.out ?_))
 refine tZ ?_
 obtain ⟨hc, hf⟩ := bcell hb1
 have hz : w.heap.size < w1.heap.size := by have := hb1.size; simp at this; omega
 go_wp2
 exact bodyPost_ret (v := .tuple #[.agg #[.int .i64 k, .int .i64 0, .string ⟨#[]⟩, .int .i64 0], .bool b]) (by simp [results, Tryz.results34, go_sem, hc]) rfl ⟨rfl, (((((bZ _).trans (hb1.mono (by simp))).setCell (Nat.le_refl _) _).setCell (Nat.le_refl _) _).setCell (Nat.le_refl _) _).setCell (Nat.le_refl _) _⟩
theorem nmB_no (c : UInt8) (r : By) (h : isD c = false) : nmB (c :: r) = textB (c :: r) ∧ nuB (c :: r) = 0 := by
 have hh : headD (c :: r) = false := h
 unfold nmB nuB
 rw [hh]
 exact ⟨rfl, rfl⟩
theorem fromRow13 (c : UInt8) (r : By) (w : World) (hE : Env w) (hl : r.length ≤ 1000) (hA : isD c = true → AllD (c :: r)) :
  Calls Tryz.prog 34 #[.string ⟨(c :: r).toArray⟩] w (TkPost w (tokP (c :: r)).1 (tokP (c :: r)).2.1 ((tokP (c :: r)).2.2.1 : Int) (tokP (c :: r)).2.2.2) := by
 have hh : headD (c :: r) = isD c := rfl
 have hh2 : headL (c :: r) = isL c := rfl
 cases hD : isD c
 ·cases hL : isL c
  ·have h := from_N c r w hE hD hL
   rw [sign_mean c r hL] at h
   unfold tokP tokOK
   rw [hh, hh2, hD, hL]
   simp only [Bool.false_eq_true, if_false]
   cases hin : inB (c :: r) signW
   ·have hn : meanB (c :: r) = none := by
     have := sign_mean c r hL
     rw [hin] at this
     simpa using this
    rw [hn, hin] at h
    exact h
   ·have hs := sign_mean c r hL
    rw [hin] at hs
    obtain ⟨k, hk⟩ := Option.isSome_iff_exists.1 hs
    rw [hk, hin] at h
    have e1 : kindB (c :: r) = k := by unfold kindB; rw [hh, hD, hk]; rfl
    have e2 : textB (c :: r) = [] := by unfold textB; rw [hh, hD, hk]; rfl
    simp only [if_true]
    rw [e1, (nmB_no c r hD).1, (nmB_no c r hD).2, e2]
    exact h
  ·unfold tokP tokOK
   rw [hh, hh2, hD, hL]
   simp only [Bool.false_eq_true, if_false, if_true, List.length_cons]
   by_cases h6 : 6 < r.length + 1
   ·rw [if_neg (by simp; omega)]
    exact from_L c r w 0 [] 0 false hD hL fun w' _ => word_long c r w' hl h6
   ·rw [if_pos (by simp; omega)]
    cases hm : meanB (c :: r) with
    | none =>
     have e1 : kindB (c :: r) = 2 := by unfold kindB; rw [hh, hD, hm]; rfl
     have e2 : textB (c :: r) = c :: r := by unfold textB; rw [hh, hD, hm]; rfl
     simp only
     rw [e1, (nmB_no c r hD).1, (nmB_no c r hD).2, e2]
     exact from_L c r w 2 (c :: r) 0 true hD hL fun w' hb => word_name c r w' (hE.next hb) h6 hm
    | some k =>
     have e1 : kindB (c :: r) = k := by unfold kindB; rw [hh, hD, hm]; rfl
     have e2 : textB (c :: r) = [] := by unfold textB; rw [hh, hD, hm]; rfl
     simp only
     rw [e1, (nmB_no c r hD).1, (nmB_no c r hD).2, e2]
     exact from_L c r w k [] 0 true hD hL fun w' hb => word_mean c r w' (hE.next hb) h6 k hm
 ·unfold tokP tokOK
  rw [hh, hD]
  simp only [if_true, List.length_cons, Bool.and_eq_true, decide_eq_true_eq]
  by_cases hv : valD (c :: r) ≤ top63
  ·by_cases h19 : 19 < r.length + 1
   ·rw [if_neg (by omega)]
    exact from_D c r w 0 [] 0 false hD fun w' _ => number_long c r w' hl (hA hD) hv h19
   ·rw [if_pos ⟨by omega, hv⟩]
    have e1 : kindB (c :: r) = 1 := by unfold kindB; rw [hh, hD]; rfl
    have e2 : nmB (c :: r) = [] := by unfold nmB; rw [hh, hD]; rfl
    have e3 : nuB (c :: r) = valD (c :: r) := by unfold nuB; rw [hh, hD]; rfl
    simp only
    rw [e1, e2, e3]
    exact from_D c r w 1 _ _ true hD fun w' _ => number_ok c r w' hl (hA hD) hv h19
  ·rw [if_neg (by intro h; exact hv h.2)]
   exact from_D c r w 0 [] 0 false hD fun w' hb => number_range c r w' (hE.next hb) hl (hA hD) hv
end Go.Proofs.YtihgojcfpnhelabGreatDoor
