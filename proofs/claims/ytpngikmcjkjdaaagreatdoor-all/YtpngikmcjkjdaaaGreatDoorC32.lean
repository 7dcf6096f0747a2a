import Derived.Test.YtpngikmcjkjdaaaGreatDoorC18
import Derived.Test.YtpngikmcjkjdaaaGreatDoorC4
set_option linter.unusedVariables false
set_option linter.unusedSimpArgs false
set_option maxRecDepth 20000
set_option maxHeartbeats 80000000
namespace Go.Proofs.YtpngikmcjkjdaaaGreatDoor
open Go.RowKit Tryz List Nat
theorem al1_ (w:World)(t:Nat->ByteArray):
 Calls prog 20 #[] w fun e w'=>Bl w w'/\∃b,e= .returned (.pointer (some ⟨b,0,none⟩))/\w.heap.size<=b/\ad_ w' b (.slice none 0 0) t 0 lh_:=by
 go_enter func20,ntmps20;go_wp2_with fail;go_ret;refine⟨μ.alloc ι _,_,rfl,ι,⟨_,ο rfl,rfl, ?_⟩,a8_⟩;exact fun i hi=>match i,hi with
  |0,_=>rfl
  |1,_=>rfl
  |2,_=>rfl
  |3,_=>rfl
  |4,_=>rfl
  |5,_=>rfl
  |6,_=>rfl
  |7,_=>rfl
  |8,_=>rfl
  |9,_=>rfl
  |10,_=>rfl
  |11,_=>rfl
  |12,_=>rfl
  |13,_=>rfl
  |14,_=>rfl
  |15,_=>rfl
  |16,_=>rfl
  |17,_=>rfl
  |18,_=>rfl
  |19,_=>rfl
  |20,_=>rfl
  |i+21,h=>o_
end Go.Proofs.YtpngikmcjkjdaaaGreatDoor
