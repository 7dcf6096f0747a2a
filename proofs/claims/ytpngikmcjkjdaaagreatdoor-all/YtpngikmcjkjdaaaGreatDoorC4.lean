import Derived.Lib.ItoaNum
import Derived.Lib.LaidTab
import Derived.Test.YtpngikmcjkjdaaaGreatDoorC1
import Derived.Test.YtpngikmcjkjdaaaGreatDoorC2
set_option linter.unusedVariables false
set_option linter.unusedSimpArgs false
set_option maxRecDepth 20000
set_option maxHeartbeats 80000000
namespace Go.Proofs.YtpngikmcjkjdaaaGreatDoor
open Go.RowKit Tryz List Nat
open Go.RowKit Go.Sort
def ei_ (w:World):Prop:=Go.Lib.TabIs Tryz.prog w "internal/strconv.uint64pow10" .u64 Go.Lib.pow10Tab
theorem aag_:(Tryz.prog.globalNamed "internal/strconv.uint64pow10").map (fun g=>decide (g<3))=some true:=by kernel_rfl
theorem ei_.below {B:Nat}{w w':World}(h:ei_ w)(hB:3<=B)(hb:Below B w w'):ei_ w':=by
 unfold ei_ Go.Lib.TabIs at h ⊢;unfold World.var? at h ⊢;obtain⟨g,b,a⟩:=Option.map_eq_some_iff.1 aag_;have a:g<3:=of_decide_eq_true a;rw[b]at h ⊢;simp only[Option.bind_some]at h ⊢;rw[hb.block g o_];exact h
theorem am6_ (w:World)(q:Nat)(os:Array Obj):Bl w (grow (w.drewN q) os):=by
 refine(below_drewN μ q).trans ⟨rfl,rfl,rfl,by simp[grow],fun k hk=> ?_⟩;have a:k<(w.drewN q).heap.size:=Nat.lt_of_lt_of_le hk (below_drewN (Below.refl w.heap.size w) q).size;show((w.drewN q).heap++os)[k]? =(w.drewN q).heap[k]?
 rw[Array.getElem?_append_left a]
def hb_ (k:Nat):ByteArray:=⟨#[109,97,114,107,32]⟩++⟨(Go.Lib.itoa (k:Int)).toArray⟩
theorem am7_ (k:Nat)(h:k<=4398046511104):(Go.Lib.itoa (k:Int)).length<=100:=by
 rw[Go.Lib.itoa,if_neg o_,Go.Lib.decDigits_length,tn_];have:∀m u,u<10^(m+1)->Go.Lib.nDigits u<=m+1:=by
  intro m;induction m with
  |zero=>intro u a;rw[Go.Lib.nDigits_small (by simpa using a)];omega
  |succ m ih=>
   intro u a;by_cases b:u<10
   . rw[Go.Lib.nDigits_small b];omega
   . rw[Go.Lib.nDigits_big b];have:=ih (u/10) (by rw[div_lt_iff_lt_mul o_];rw[Nat.pow_succ]at a;omega);omega
 have:=this 19 k o_;omega
theorem aah_ (k:Nat)(hk:k<=4398046511104)(w:World)(ht:ei_ w):
 Calls prog 24 #[.int .i64 (k:Int)] w fun e w'=>e= .returned (.string (hb_ k))/\Bl w w':=by
 have b:=Any.strconv_Itoa abd_ (k:Int) o_ o_ w ht;have c:=am7_ k hk;have a:(⟨(Go.Lib.itoa (k:Int)).toArray⟩:ByteArray).size=(Go.Lib.itoa (k:Int)).length:=by simp[ByteArray.size]
 rw[<-a]at c;unfold hb_;generalize (⟨(Go.Lib.itoa (k:Int)).toArray⟩:ByteArray)=x at*;clear a;go_enter func24,ntmps24;go_wp2_with (go_at_call 59;refine b.mono ?_;rintro e w' ⟨rfl,d,f,rfl⟩);go_ret;exact⟨rfl,am6_ _ _ _⟩
end Go.Proofs.YtpngikmcjkjdaaaGreatDoor
