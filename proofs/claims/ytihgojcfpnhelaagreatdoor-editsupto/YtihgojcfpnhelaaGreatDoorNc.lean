import Derived.Test.YtihgojcfpnhelaaGreatDoorAa
set_option maxRecDepth 100000
set_option maxHeartbeats 4000000
set_option linter.all false
namespace Go.Proofs
open Go.RowKit Go.Proofs.Tryz
section
open Go.Shelf
def Tryz.lays106_ren:Go.Shelf.Ren:=⟨fun|106=>141|213=>172|265=>204|n=>n,fun|3=>3|9=>9|n=>n,fun|n=>n⟩
def Tryz.lays106:Go.Proofs.Lays.n106 Tryz.prog Tryz.lays106_ren:={
 mixed:=by kernel_rfl
 f106:=zq func141 (by kernel_rfl)
 f213:=zq func172 (by kernel_rfl)
 f265:=zq func204 (by kernel_rfl)
 t3:=underlying3
 a3:=isAgg3
 z3:=sizeOf3
 v3:=zeroValue3
 t9:=underlying9
 a9:=isAgg9
 z9:=sizeOf9
 v9:=zeroValue9 }
def Tryz.lays125_ren:Go.Shelf.Ren:=⟨fun|125=>203|128=>231|129=>174|n=>n,fun|3=>3|4=>4|5=>5|9=>9|46=>267|51=>265|53=>187|n=>n,fun|n=>n⟩
def Tryz.lays125:Go.Proofs.Lays.n125 Tryz.prog Tryz.lays125_ren:={
 mixed:=by kernel_rfl
 f125:=zq func203 (by kernel_rfl)
 f128:=zq func231 (by kernel_rfl)
 f129:=zq func174 (by kernel_rfl)
 t3:=underlying3
 a3:=isAgg3
 z3:=sizeOf3
 v3:=zeroValue3
 t4:=underlying4
 a4:=isAgg4
 z4:=sizeOf4
 v4:=zeroValue4
 t5:=underlying5
 a5:=isAgg5
 z5:=sizeOf5
 v5:=zeroValue5
 t9:=underlying9
 a9:=isAgg9
 z9:=sizeOf9
 v9:=zeroValue9
 t46:=underlying267
 a46:=isAgg267
 z46:=sizeOf267
 v46:=zeroValue267
 t51:=underlying265
 a51:=isAgg265
 z51:=sizeOf265
 v51:=zeroValue265
 t53:=underlying187
 a53:=isAgg187
 z53:=sizeOf187
 v53:=zeroValue187 }
def Tryz.lays20_ren:Go.Shelf.Ren:=⟨fun|20=>223|n=>n,fun|0=>0|3=>3|4=>4|22=>101|24=>220|25=>229|n=>n,fun|n=>n⟩
def Tryz.lays20:Go.Proofs.SlLaysF.n20 Tryz.prog Tryz.lays20_ren:={
 mixed:=by kernel_rfl
 f20:=⟨f223.name,by kernel_rfl,zq func223 (by kernel_rfl)⟩
 t0:=underlying0
 a0:=isAgg0
 z0:=sizeOf0
 v0:=zeroValue0
 t3:=underlying3
 a3:=isAgg3
 z3:=sizeOf3
 v3:=zeroValue3
 t4:=underlying4
 a4:=isAgg4
 z4:=sizeOf4
 v4:=zeroValue4
 t22:=underlying101
 a22:=isAgg101
 z22:=sizeOf101
 v22:=zeroValue101
 a24:=isAgg220
 z24:=sizeOf220
 t25:=underlying229
 a25:=isAgg229
 z25:=sizeOf229
 v25:=zeroValue229 }
end
end Go.Proofs
