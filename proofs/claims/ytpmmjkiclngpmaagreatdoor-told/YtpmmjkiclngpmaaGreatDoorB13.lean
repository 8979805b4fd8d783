/- YtpmmjkiclngpmaaGreatDoorB13 -/
import Derived.Shelf.LaysM
import Derived.Shelf.Strconv.Clone
import Derived.Shelf.SlicesE.Clone
import Derived.Shelf.SlicesQ.IndexFunc
import Derived.Test.YtpmmjkiclngpmaaGreatDoorProg
set_option maxRecDepth 100000
set_option linter.unusedSimpArgs false
set_option linter.unusedVariables false
set_option maxHeartbeats 12800000
namespace Go.Proofs
open Go.Shelf
def Tryz.laysM316_ren:Go.Shelf.Ren:=⟨λ|316=>98|n=>n,λ|9=>9|3=>3|4=>4|37=>115|0=>0|127=>198|5=>5|n=>n,λ|n=>n⟩
theorem Tryz.laysM316:Go.Proofs.LaysM.n316 prog Tryz.laysM316_ren:={
 mixed:=by kernel_rfl
 f316:=func98.trans (congrArg some (by kernel_rfl))
 t0:=underlying0
 a0:=isAgg0
 z0:=sizeOf0
 v0:=zeroValue0
 t3:=underlying3
 a3:=isAgg3
 z3:=sizeOf3
 v3:=zeroValue3
 t4:=underlying4
 a4:=isAgg4
 z4:=sizeOf4
 v4:=zeroValue4
 t9:=underlying9
 a9:=isAgg9
 z9:=sizeOf9
 v9:=zeroValue9
 t37:=underlying115
 a37:=isAgg115
 z37:=sizeOf115
 v37:=zeroValue115
 t127:=underlying198
 a127:=isAgg198
 z127:=sizeOf198
 v127:=zeroValue198
 t5:=underlying5
 a5:=isAgg5
 z5:=sizeOf5
 v5:=zeroValue5
 i0:=by kernel_rfl
 i3:=by kernel_rfl
 i4:=by kernel_rfl
 i5:=by kernel_rfl
 i9:=by kernel_rfl
 i37:=by kernel_rfl
 i127:=by kernel_rfl}
def Tryz.cloneU_ren:Go.Shelf.Ren:=⟨λ|41=>117|n=>n,λ|22=>152|23=>185|4=>4|n=>n,λ|n=>n⟩
theorem Tryz.cloneU:Go.Proofs.SlLaysE0.n41 prog Tryz.cloneU_ren:={
 mixed:=by kernel_rfl
 f41:=⟨Tryz.f117.name,by decide,func117.trans (congrArg some (by kernel_rfl))⟩
 t4:=underlying4
 a4:=isAgg4
 z4:=sizeOf4
 v4:=zeroValue4
 t22:=underlying152
 a22:=isAgg152
 z22:=sizeOf152
 v22:=zeroValue152}
def Tryz.cloneI_ren:Go.Shelf.Ren:=⟨λ|41=>183|n=>n,λ|22=>89|23=>196|4=>4|n=>n,λ|n=>n⟩
theorem Tryz.cloneI:Go.Proofs.SlLaysE0.n41 prog Tryz.cloneI_ren:={
 mixed:=by kernel_rfl
 f41:=⟨Tryz.f183.name,by decide,func183.trans (congrArg some (by kernel_rfl))⟩
 t4:=underlying4
 a4:=isAgg4
 z4:=sizeOf4
 v4:=zeroValue4
 t22:=underlying89
 a22:=isAgg89
 z22:=sizeOf89
 v22:=zeroValue89}
def Tryz.containsU_ren:Go.Shelf.Ren:=⟨λ|8=>110|6=>172|n=>n,λ|22=>152|23=>185|25=>211|4=>4|3=>3|0=>0|n=>n,λ|n=>n⟩
theorem Tryz.containsU:Go.Proofs.SlLaysH0.n8 prog Tryz.containsU_ren:={
 mixed:=by kernel_rfl
 f6:=⟨Tryz.f172.name,by decide,func172.trans (congrArg some (by kernel_rfl))⟩
 f8:=⟨Tryz.f110.name,by decide,func110.trans (congrArg some (by kernel_rfl))⟩
 t0:=underlying0
 a0:=isAgg0
 z0:=sizeOf0
 v0:=zeroValue0
 t3:=underlying3
 a3:=isAgg3
 z3:=sizeOf3
 v3:=zeroValue3
 t4:=underlying4
 a4:=isAgg4
 z4:=sizeOf4
 v4:=zeroValue4
 t22:=underlying152
 a22:=isAgg152
 z22:=sizeOf152
 v22:=zeroValue152
 t25:=underlying211
 a25:=isAgg211
 z25:=sizeOf211
 v25:=zeroValue211}
end Go.Proofs
