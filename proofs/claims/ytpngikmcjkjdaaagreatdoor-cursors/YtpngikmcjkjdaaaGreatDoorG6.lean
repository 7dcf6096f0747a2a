import Derived.Test.YtpngikmcjkjdaaaGreatDoorG0
import Derived.Lib.ItoaNum
import Derived.Lib.LaidTab
import Derived.Test.YtpngikmcjkjdaaaGreatDoorG1
import Derived.Test.YtpngikmcjkjdaaaGreatDoorG2
set_option linter.unusedVariables false
set_option linter.unusedSimpArgs false
set_option maxRecDepth 20000
set_option maxHeartbeats 80000000
namespace Go.Proofs.YtpngikmcjkjdaaaGreatDoor
open Go.RowKit Tryz
open Go.RowKit Go.Sort
def dh_ (w:World):Prop:=Go.Lib.TabIs Tryz.prog w "internal/strconv.uint64pow10" .u64 Go.Lib.pow10Tab
theorem qy_:(Tryz.prog.globalNamed "internal/strconv.uint64pow10").map (fun g=>decide (g<3))=some true:=by kernel_rfl
theorem dh_.below {B:Nat}{w w':World}(h:dh_ w)(hB:3<=B)(hb:Below B w w'):dh_ w':=by
 unfold dh_ Go.Lib.TabIs at h ⊢;unfold World.var? at h ⊢;obtain⟨g,hg,hl⟩:=Option.map_eq_some_iff.1 qy_;have hl:g<3:=of_decide_eq_true hl;rw[hg]at h ⊢;simp only[Option.bind_some]at h ⊢;rw[hb.block g o_];exact h
theorem u4_ (w:World)(q:Nat)(os:Array Obj):Below w.heap.size w (grow (w.drewN q) os):=by
 refine(below_drewN br__ q).trans ⟨rfl,rfl,rfl,by simp[grow],fun k hk=> ?_⟩;have hk':k<(w.drewN q).heap.size:=Nat.lt_of_lt_of_le hk (below_drewN (Below.refl w.heap.size w) q).size;show((w.drewN q).heap++os)[k]? =(w.drewN q).heap[k]?
 rw[Array.getElem?_append_left hk']
def fw_ (k:Nat):ByteArray:=⟨#[109,97,114,107,32]⟩++⟨(Go.Lib.itoa (k:Int)).toArray⟩
theorem ac3_ (k:Nat)(h:k<=4398046511104):(Go.Lib.itoa (k:Int)).length<=100:=by
 rw[Go.Lib.itoa,if_neg o_,Go.Lib.decDigits_length,Int.toNat_natCast];have:∀m u,u<10^(m+1)->Go.Lib.nDigits u<=m+1:=by
  intro m;induction m with
  |zero=>intro u hu;rw[Go.Lib.nDigits_small (by simpa using hu)];omega
  |succ m ih=>
   intro u hu;by_cases h10:u<10
   . rw[Go.Lib.nDigits_small h10];omega
   . rw[Go.Lib.nDigits_big h10];have:=ih (u/10) (by rw[Nat.div_lt_iff_lt_mul o_];rw[Nat.pow_succ]at hu;omega);omega
 have:=this 19 k o_;omega
theorem vx_ (k:Nat)(hk:k<=4398046511104)(w:World)(ht:dh_ w):
 Calls prog 24 #[.int .i64 (k:Int)] w fun e w'=>e= .returned (.string (fw_ k))/\Below w.heap.size w w':=by
 have HC:=Any.strconv_Itoa aaj_ (k:Int) o_ o_ w ht;have hl:=ac3_ k hk;have hsz:(⟨(Go.Lib.itoa (k:Int)).toArray⟩:ByteArray).size=(Go.Lib.itoa (k:Int)).length:=by simp[ByteArray.size]
 rw[<-hsz]at hl;unfold fw_;generalize (⟨(Go.Lib.itoa (k:Int)).toArray⟩:ByteArray)=x at*;clear hsz;go_enter func24,ntmps24;go_wp2_with (go_at_call 59;refine HC.mono ?_;rintro e w' ⟨rfl,kk,os,rfl⟩);go_ret;exact⟨rfl,u4_ _ _ _⟩
end Go.Proofs.YtpngikmcjkjdaaaGreatDoor
