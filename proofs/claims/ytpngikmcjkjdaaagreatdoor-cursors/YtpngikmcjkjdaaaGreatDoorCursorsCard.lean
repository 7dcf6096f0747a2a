import Derived.Test.YtpngikmcjkjdaaaGreatDoorG0
import Derived.Carry
import Derived.Deep.DeepHandedRow
import Derived.Lib.LaidTab
import Derived.OpenShut
import Derived.ProofKit
import Derived.WalkKit
import Derived.Test.YtpngikmcjkjdaaaGreatDoorCards
import Derived.Test.YtpngikmcjkjdaaaGreatDoorG46
import Derived.Test.YtpngikmcjkjdaaaGreatDoorTie
namespace Go.Proofs.YtpngikmcjkjdaaaGreatDoor.cursors
open Go.ChangeShapes Go.WideShapes Go.ChangeAt Go.RowKit
set_option linter.unusedVariables false
set_option linter.unusedSimpArgs false
theorem own:ownKnob Tryz.prog.godebug=none:=k_
theorem adk_:laidOutB Tryz.prog=true:=k_
theorem afs_:Tryz.prog.globalNamed "internal/strconv.uint64pow10" =some 0:=by kernel_rfl
theorem xp_:Tryz.prog.globalNamed "math/bits.deBruijn64tab" =some 2:=by kernel_rfl
theorem adl_:(Tryz.prog.globals[0]?).map (·.type)=some 225:=k_
theorem aaf_:Tryz.prog.underlying 225=some (.array 20 209):=k_
theorem xq_:Tryz.prog.underlying 209=some (.int .u64):=k_
theorem xr_:Tryz.prog.cellsOf 209=1:=k_
theorem aag_:Tryz.prog.cellsOf 225=20:=k_
theorem pb_ {W:World}(hL:laidMet Tryz.prog Rows.cursorsRow.laid W):dh_ W:=by
  obtain⟨ps,hl,_,_⟩:=hL;obtain⟨_,_,_,_,_,_,_,_,_,_,hl,_⟩:=hl;obtain⟨_,_,_,_,_,_,_,_,_,_,hl,_⟩:=hl;obtain⟨g,t,cs,fuel,p,q,hg,ht,hvar,hd,_,_⟩:=hl;obtain rfl:=Option.some.inj (afs_.symm.trans hg);obtain rfl:=Option.some.inj (adl_.symm.trans ht);unfold dh_ Go.Lib.TabIs;have hd':DataW.trod (fun _=>()) Tryz.prog W 0 (fun _=>true) false fuel 225 cs.toList=some (Go.Lib.tabData .u64 Go.Lib.pow10Tab,p):=hd;rw[hvar,<-Go.Lib.cells_of_tab aaf_ xq_ xr_ aag_ hd']
theorem q2_ {W:World}(hL:laidMet Tryz.prog Rows.cursorsRow.laid W):3<=W.heap.size:=by
  obtain⟨ps,hl,_,_⟩:=hL;obtain⟨_,_,_,_,_,_,_,_,_,_,hl,_⟩:=hl;obtain⟨g,t,cs,fuel,p,q,hg,ht,hvar,hd,_,_⟩:=hl;obtain rfl:=Option.some.inj (xp_.symm.trans hg);unfold World.var? at hvar;rw[xp_]at hvar;simp only[Option.bind_some]at hvar;rcases Nat.lt_or_ge 2 W.heap.size with h|h
  . omega
  . have:W.heap[2]? =none:=s_;rw[this]at hvar;cases hvar
set_option maxRecDepth 100000 in
theorem aah_ (H:Type)(enc:TypeId×Value->H)(W:World)(base:Nat)(args:Array Value)(ds gs:List (DataW H))(before:List MemPlace)
    (hval:∀(j:Nat) t v,Tryz.f9.params[j]? =some t->args[j]? =some v->Value.okWide Tryz.prog W .any base t v)
    (hW:DataW.Whole enc Tryz.prog Tryz.f9.params.toList Rows.cursorsSpec.vars false W args.toList ds gs before)
    (hL:laidMet Tryz.prog Rows.cursorsRow.laid W)
    (hr:(DataW.weightsEach Tryz.prog (Tryz.f9.params.toList++(OpenSpec.ofChange Rows.cursorsSpec).bare.plain.varTypes Tryz.prog) (ds++gs)).all (·<=reachBytes)=true):
    Calls Tryz.prog 9 args W fun e W'=>∃v,e= .returned v/\Rows.cursorsSpec.post enc Tryz.prog Tryz.f9 false true false false W args v W':=by
  have hW':=hW;obtain⟨p,q,hA0,hV,rfl,hfz,hnd⟩:=hW;have hA:DataW.TrodAll enc Tryz.prog W 0 (fun _=>true) true Tryz.f9.params.toList args.toList ds p:=hA0;rw[Tryz.params9]at hA hval hr;obtain⟨v0,vs0,d0,ds0,p0,q0,hargs,rfl,rfl,h0,r0⟩:=trodAll_cons hA;obtain⟨rfl,rfl,rfl⟩:=trodAll_nil r0;obtain rfl:args= #[v0]:=by cases args;simp_all
  obtain⟨rfl,rfl⟩:=trodVars_none hV;obtain⟨a0,len0,cap0,rfl⟩:=okWide_slice Tryz.underlying22 (hval 0 22 v0 rfl rfl);have k0:=h0;have lt0:∀x∈p0,x.block<W.heap.size:=by obtain⟨m,hm⟩:=k0;exact DataW.trod_lt m _ _ _ hm
  obtain⟨r,hlen,hops⟩:=acv_ h0 hr rfl rfl;clear hA0 hval;refine(tu_ a0 len0 cap0 r W hlen hops (q2_ hL) (pb_ hL)).mono fun e W' ⟨he,bel⟩=> ?_
  subst he;exact⟨_,rfl,_,_,_,[],_,[],hW',trodAll_mk1 (shut_bool Tryz.underlying4 _),(trodAll_cons_mk (Below.trod adk_ k_ (of_decide_eq_true k_) k0 bel lt0) trodAll_mk0),rfl,bel.frame _,fun h=>by cases h⟩
def rj_ (a:Array Value):Obj->Obj
  | .cells _ t frozen=> .cells a t frozen
  |o=>o
noncomputable def ln_ (os:Os):World:=
  {World.holding Tryz.prog os ⟨#[], #[],[]⟩with heap:=(((World.holding Tryz.prog os ⟨#[], #[],[]⟩).heap.modify 0 (rj_ #[.int .u64 1,.int .u64 10,.int .u64 100,.int .u64 1000,.int .u64 10000,.int .u64 100000,.int .u64 1000000,.int .u64 10000000,.int .u64 100000000,.int .u64 1000000000,.int .u64 10000000000,.int .u64 100000000000,.int .u64 1000000000000,.int .u64 10000000000000,.int .u64 100000000000000,.int .u64 1000000000000000,.int .u64 10000000000000000,.int .u64 100000000000000000,.int .u64 1000000000000000000,.int .u64 10000000000000000000])).modify 1 (rj_ #[.int .u8 0,.int .u8 1,.int .u8 28,.int .u8 2,.int .u8 29,.int .u8 14,.int .u8 24,.int .u8 3,.int .u8 30,.int .u8 22,.int .u8 20,.int .u8 15,.int .u8 25,.int .u8 17,.int .u8 4,.int .u8 8,.int .u8 31,.int .u8 27,.int .u8 13,.int .u8 23,.int .u8 21,.int .u8 19,.int .u8 16,.int .u8 7,.int .u8 26,.int .u8 12,.int .u8 18,.int .u8 6,.int .u8 11,.int .u8 5,.int .u8 10,.int .u8 9])).modify 2 (rj_ #[.int .u8 0,.int .u8 1,.int .u8 56,.int .u8 2,.int .u8 57,.int .u8 49,.int .u8 28,.int .u8 3,.int .u8 61,.int .u8 58,.int .u8 42,.int .u8 50,.int .u8 38,.int .u8 29,.int .u8 17,.int .u8 4,.int .u8 62,.int .u8 47,.int .u8 59,.int .u8 36,.int .u8 45,.int .u8 43,.int .u8 51,.int .u8 22,.int .u8 53,.int .u8 39,.int .u8 33,.int .u8 30,.int .u8 24,.int .u8 18,.int .u8 12,.int .u8 5,.int .u8 63,.int .u8 55,.int .u8 48,.int .u8 27,.int .u8 60,.int .u8 41,.int .u8 37,.int .u8 16,.int .u8 46,.int .u8 35,.int .u8 44,.int .u8 21,.int .u8 52,.int .u8 32,.int .u8 23,.int .u8 11,.int .u8 54,.int .u8 26,.int .u8 40,.int .u8 15,.int .u8 34,.int .u8 20,.int .u8 31,.int .u8 10,.int .u8 25,.int .u8 14,.int .u8 19,.int .u8 9,.int .u8 13,.int .u8 8,.int .u8 7,.int .u8 6])}
theorem aai_ (os:Os):laidMet Tryz.prog Rows.cursorsRow.laid ((ln_ os).forCall (fun _ _=>0) ⟨#[], #[.slice none 0 0],[]⟩).memory:=
  laidMet_of_run' 8 k_ k_
theorem aft_ (os:Os){H:Type}(enc:TypeId×Value->H):∃places,DataW.whole enc Tryz.prog ((ln_ os).forCall (fun _ _=>0) ⟨#[], #[.slice none 0 0],[]⟩).memory Tryz.f9.params.toList Rows.cursorsSpec.vars false #[Value.slice none 0 0].toList 8=some ([.nil],[],places):=
  ⟨[],k_⟩
set_option maxRecDepth 100000 in
theorem ae3_ (os:Os)(started:os.Started)(H:Type)(enc:TypeId×Value->H)(F:Stop.Interp):
    ReturnsInHanded {} Tryz.checked os 9 .any ((OpenSpec.ofChange Rows.cursorsSpec).preRow enc Tryz.prog Tryz.f9 Rows.cursorsRow.domain false Rows.cursorsRow.laid) (((OpenSpec.ofChange Rows.cursorsSpec).at F).post enc Tryz.prog Tryz.f9 false true false false):=by
  obtain⟨places,hx⟩:=aft_ os enc;refine returnsInHanded_of_row (C:=Tryz.checked) (s:=OpenSpec.ofChange Rows.cursorsSpec) own started k_ Tryz.func9
    (witness_row_at (enc:=enc) (C:=Tryz.checked) false (ln_ os) #[.slice none 0 0] rfl k_ k_ k_
      (OpenSpec.preRow_of_cond 8 hx k_ (fun k hk=>by cases hk) k_ (aai_ os))) ?_
  intro W base args ds gs before hval hW _ _ hr hL _ _;exact aah_ H enc W base args ds gs before hval hW hL hr
theorem said:Rows.CursorsSaid:=
  OpenClaim.holds_of_cond 9 Tryz.f9 rfl rfl rfl rfl rfl rfl rfl ⟨rfl,rfl,rfl,rfl,rfl⟩ rfl rfl rfl rfl rfl k_ Tryz.func9 k_
    (of_decide_eq_true k_) (by unfold Func.isWrapper;first|(rw[if_pos (by decide+kernel)];kernel_rfl)|(rw[if_neg (by decide+kernel)];exact⟨rfl,rfl⟩))
    (fun os started H enc _ F=>by rw[OpenClaim.pre_eq_preRow];exact ae3_ os started H enc F)
theorem plain (f:FuncId)(fn:Func)(hf:Tryz.pinned.checked.prog.funcNamed "tunes/tuneslaw.Cursors" =some f)(hfn:Tryz.pinned.checked.prog.funcs[f]? =some fn):
    false=Tryz.pinned.checked.prog.looks []/\∀(j:Nat) t,fn.params[j]? =some t->Tryz.pinned.checked.prog.wantsStandIn t=false:=by
  obtain rfl:f=9:=Option.some.inj ((show Tryz.prog.funcNamed "tunes/tuneslaw.Cursors" =some 9 by kernel_rfl).symm.trans hf)|>.symm
  obtain rfl:fn=Tryz.f9:=(Option.some.inj (Tryz.func9.symm.trans hfn)).symm;refine⟨k_,fun j t ht=> ?_⟩;rw[Tryz.params9]at ht;obtain rfl:t=22:=by simpa using Array.mem_of_getElem? ht
  exact(show Tryz.prog.wantsStandIn 22=false by kernel_rfl)
theorem card:Rows.CursorsCardSaid:=
  Claim7.holds_tied_plain_at .later [] _ _ _ _ said (fun _ h=>by cases h) k_ (fun _ h=>by cases h) cursors_row_tie rfl ⟨rfl,rfl⟩ k_ rfl plain k_
end Go.Proofs.YtpngikmcjkjdaaaGreatDoor.cursors
namespace Go.Proofs.YtpngikmcjkjdaaaGreatDoor
theorem cursors_holds:Rows.CursorsCardSaid:=cursors.card
end Go.Proofs.YtpngikmcjkjdaaaGreatDoor
