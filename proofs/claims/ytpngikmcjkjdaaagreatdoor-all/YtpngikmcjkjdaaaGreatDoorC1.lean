import Derived.Test.YtpngikmcjkjdaaaGreatDoorC0
import Derived.Shelf.LaysM
import Derived.Shelf.Strconv.Itoa3
set_option linter.unusedVariables false
set_option linter.unusedSimpArgs false
set_option maxRecDepth 20000
set_option maxHeartbeats 80000000
namespace Go.Proofs.YtpngikmcjkjdaaaGreatDoor
open Go.RowKit Tryz List Nat
open Go.Shelf
def abc_:Go.Shelf.Ren:=⟨fun|171=>59|243=>97|246=>133|283=>161|284=>162|285=>163|286=>164|129=>177|317=>176|318=>178|319=>179|320=>180|337=>185|338=>186|n=>n,fun|3=>3|9=>9|2=>2|4=>4|171=>208|0=>0|53=>209|37=>110|5=>5|173=>212|212=>225|51=>226|20=>20|213=>227|46=>228|232=>238|233=>239|n=>n,fun|17=>0|18=>1|19=>2|n=>n⟩
theorem abd_:Go.Proofs.LaysM.n171 prog abc_:= {
 mixed:=k_
 f129:=func177.trans (congrArg some k_)
 f171:=func59.trans (congrArg some k_)
 f243:=func97.trans (congrArg some k_)
 f246:=func133.trans (congrArg some k_)
 f283:=func161.trans (congrArg some k_)
 f284:=func162.trans (congrArg some k_)
 f285:=func163.trans (congrArg some k_)
 f286:=func164.trans (congrArg some k_)
 f317:=func176.trans (congrArg some k_)
 f318:=func178.trans (congrArg some k_)
 f319:=func179.trans (congrArg some k_)
 f320:=func180.trans (congrArg some k_)
 f337:=func185.trans (congrArg some k_)
 f338:=func186.trans (congrArg some k_)
 t0:=underlying0
 a0:=isAgg0
 z0:=sizeOf0
 v0:=zeroValue0
 t2:=underlying2
 a2:=isAgg2
 z2:=sizeOf2
 v2:=zeroValue2
 t3:=underlying3
 a3:=isAgg3
 z3:=sizeOf3
 v3:=zeroValue3
 t4:=underlying4
 a4:=isAgg4
 z4:=sizeOf4
 v4:=zeroValue4
 t5:=underlying5
 a5:=isAgg5
 z5:=sizeOf5
 v5:=zeroValue5
 t9:=underlying9
 a9:=isAgg9
 z9:=sizeOf9
 v9:=zeroValue9
 t20:=underlying20
 a20:=isAgg20
 z20:=sizeOf20
 v20:=zeroValue20
 t37:=underlying110
 a37:=isAgg110
 z37:=sizeOf110
 v37:=zeroValue110
 t46:=underlying228
 a46:=isAgg228
 z46:=sizeOf228
 v46:=zeroValue228
 t51:=underlying226
 a51:=isAgg226
 z51:=sizeOf226
 v51:=zeroValue226
 t53:=underlying209
 a53:=isAgg209
 z53:=sizeOf209
 v53:=zeroValue209
 t171:=underlying208
 a171:=isAgg208
 z171:=sizeOf208
 v171:=zeroValue208
 t173:=underlying212
 a173:=isAgg212
 z173:=sizeOf212
 v173:=zeroValue212
 t212:=underlying225
 a212:=isAgg225
 z212:=sizeOf225
 v212:=zeroValue225
 t213:=underlying227
 a213:=isAgg227
 z213:=sizeOf227
 t232:=underlying238
 a232:=isAgg238
 z232:=sizeOf238
 v232:=zeroValue238
 t233:=underlying239
 a233:=isAgg239
 z233:=sizeOf239
 v233:=zeroValue239
 g17:=k_
 g18:=k_
 g19:=k_
 i0:=k_
 i2:=k_
 i3:=k_
 i4:=k_
 i5:=k_
 i9:=k_
 i20:=k_
 i37:=k_
 i46:=k_
 i51:=k_
 i53:=k_
 i171:=k_
 i173:=k_
 i212:=k_
 i232:=k_
 i233:=k_
 m17:=k_
 m18:=k_
 m19:=by kernel_rfl}
end Go.Proofs.YtpngikmcjkjdaaaGreatDoor
