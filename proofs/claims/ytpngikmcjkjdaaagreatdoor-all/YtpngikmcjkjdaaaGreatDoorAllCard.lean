import Derived.Carry
import Derived.Deep.DeepHandedRow
import Derived.ProofKit
import Derived.Test.YtpngikmcjkjdaaaGreatDoorC36
import Derived.Test.YtpngikmcjkjdaaaGreatDoorCards
import Derived.Test.YtpngikmcjkjdaaaGreatDoorTie
namespace Go.Proofs.YtpngikmcjkjdaaaGreatDoor.all
open Go.ChangeShapes Go.WideShapes Go.ChangeAt Go.RowKit
set_option linter.unusedVariables false
set_option linter.unusedSimpArgs false
theorem own:ownKnob Tryz.prog.godebug=none:=k_
theorem aay_:laidOutB Tryz.prog=true:=k_
theorem aaz_:Tryz.prog.globalNamed "internal/strconv.uint64pow10" =some 0:=by kernel_rfl
theorem t3_:Tryz.prog.globalNamed "math/bits.deBruijn64tab" =some 2:=by kernel_rfl
theorem aa0_:(Tryz.prog.globals[0]?).map (·.type)=some 225:=k_
theorem aa1_:Tryz.prog.underlying 225=some (.array 20 209):=k_
theorem aa2_:Tryz.prog.underlying 209=some (.int .u64):=k_
theorem aa3_:Tryz.prog.cellsOf 209=1:=k_
theorem aa4_:Tryz.prog.cellsOf 225=20:=k_
theorem aa5_ {W:World}(hL:laidMet Tryz.prog Rows.allRow.laid W):ei_ W:=by
  obtain⟨j,a,_,_⟩:=hL;obtain⟨_,_,_,_,_,_,_,_,_,_,a,_⟩:=a;obtain⟨_,_,_,_,_,_,_,_,_,_,a,_⟩:=a;obtain⟨g,t,b,c,p,q,f,h,i,d,_,_⟩:=a;obtain rfl:=Option.some.inj (aaz_.symm.trans f);obtain rfl:=Option.some.inj (aa0_.symm.trans h);unfold ei_ Go.Lib.TabIs;have e:DataW.trod (fun _=>()) Tryz.prog W 0 (fun _=>true) false c 225 b.toList=some (Go.Lib.tabData .u64 Go.Lib.pow10Tab,p):=d;rw[i,<-Go.Lib.cells_of_tab aa1_ aa2_ aa3_ aa4_ e]
theorem aa6_ {W:World}(hL:laidMet Tryz.prog Rows.allRow.laid W):3<=W.heap.size:=by
  obtain⟨j,b,_,_⟩:=hL;obtain⟨_,_,_,_,_,_,_,_,_,_,b,_⟩:=b;obtain⟨g,t,d,e,p,q,c,i,a,f,_,_⟩:=b;obtain rfl:=Option.some.inj (t3_.symm.trans c);unfold World.var? at a;rw[t3_]at a;simp only[Option.bind_some]at a;rcases Nat.lt_or_ge 2 W.heap.size with h|h
  . omega
  . have:W.heap[2]? =none:=s_;rw[this]at a;cases a
set_option maxRecDepth 100000 in
theorem aa7_ (H:Type)(enc:TypeId×Value->H)(W:World)(base:Nat)(args:Array Value)(ds gs:List (DataW H))(before:List MemPlace)
    (hval:∀(j:Nat) t v,Tryz.f10.params[j]? =some t->args[j]? =some v->Value.okWide Tryz.prog W .any base t v)
    (hW:DataW.Whole enc Tryz.prog Tryz.f10.params.toList Rows.allSpec.vars false W args.toList ds gs before)
    (hL:laidMet Tryz.prog Rows.allRow.laid W)
    (hr:(DataW.weightsEach Tryz.prog (Tryz.f10.params.toList++(OpenSpec.ofChange Rows.allSpec).bare.plain.varTypes Tryz.prog) (ds++gs)).all (·<=reachBytes)=true):
    Calls Tryz.prog 10 args W fun e W'=>∃v,e= .returned v/\Rows.allSpec.post enc Tryz.prog Tryz.f10 false true false false W args v W':=by
  have l:=hW;obtain⟨p,q,c,k,rfl,C,D⟩:=hW;have b:DataW.TrodAll enc Tryz.prog W 0 (fun _=>true) true Tryz.f10.params.toList args.toList ds p:=c;rw[Tryz.params10]at b hval hr;obtain⟨f,F,d0,A,y,E,B,rfl,rfl,a,z⟩:=trodAll_cons b;obtain⟨rfl,rfl,rfl⟩:=trodAll_nil z;obtain rfl:args= #[f]:=by cases args;simp_all
  obtain⟨rfl,rfl⟩:=trodVars_none k;obtain⟨g,u,i,rfl⟩:=okWide_slice Tryz.underlying22 (hval 0 22 f rfl rfl);have d:=a;have w:∀x∈y,x.block<W.heap.size:=by obtain⟨m,o⟩:=d;exact DataW.trod_lt m _ _ _ o
  obtain⟨r,n,s⟩:=al8_ a hr rfl rfl;clear c hval;refine(am5_ g u i r W n s (aa6_ hL) (aa5_ hL)).mono fun e W' ⟨he,bel⟩=> ?_
  subst he;exact⟨_,rfl,_,_,_,[],_,[],l,trodAll_mk1 (shut_bool Tryz.underlying4 _),(trodAll_cons_mk (Below.trod aay_ k_ (of_decide_eq_true k_) d bel w) trodAll_mk0),rfl,bel.frame _,fun h=>by cases h⟩
def qo_ (a:Array Value):Obj->Obj
  | .cells _ t frozen=> .cells a t frozen
  |o=>o
noncomputable def qp_ (os:Os):World:=
  {World.holding Tryz.prog os ⟨#[], #[],[]⟩with heap:=(((World.holding Tryz.prog os ⟨#[], #[],[]⟩).heap.modify 0 (qo_ #[.int .u64 1,.int .u64 10,.int .u64 100,.int .u64 1000,.int .u64 10000,.int .u64 100000,.int .u64 1000000,.int .u64 10000000,.int .u64 100000000,.int .u64 1000000000,.int .u64 10000000000,.int .u64 100000000000,.int .u64 1000000000000,.int .u64 10000000000000,.int .u64 100000000000000,.int .u64 1000000000000000,.int .u64 10000000000000000,.int .u64 100000000000000000,.int .u64 1000000000000000000,.int .u64 10000000000000000000])).modify 1 (qo_ #[.int .u8 0,.int .u8 1,.int .u8 28,.int .u8 2,.int .u8 29,.int .u8 14,.int .u8 24,.int .u8 3,.int .u8 30,.int .u8 22,.int .u8 20,.int .u8 15,.int .u8 25,.int .u8 17,.int .u8 4,.int .u8 8,.int .u8 31,.int .u8 27,.int .u8 13,.int .u8 23,.int .u8 21,.int .u8 19,.int .u8 16,.int .u8 7,.int .u8 26,.int .u8 12,.int .u8 18,.int .u8 6,.int .u8 11,.int .u8 5,.int .u8 10,.int .u8 9])).modify 2 (qo_ #[.int .u8 0,.int .u8 1,.int .u8 56,.int .u8 2,.int .u8 57,.int .u8 49,.int .u8 28,.int .u8 3,.int .u8 61,.int .u8 58,.int .u8 42,.int .u8 50,.int .u8 38,.int .u8 29,.int .u8 17,.int .u8 4,.int .u8 62,.int .u8 47,.int .u8 59,.int .u8 36,.int .u8 45,.int .u8 43,.int .u8 51,.int .u8 22,.int .u8 53,.int .u8 39,.int .u8 33,.int .u8 30,.int .u8 24,.int .u8 18,.int .u8 12,.int .u8 5,.int .u8 63,.int .u8 55,.int .u8 48,.int .u8 27,.int .u8 60,.int .u8 41,.int .u8 37,.int .u8 16,.int .u8 46,.int .u8 35,.int .u8 44,.int .u8 21,.int .u8 52,.int .u8 32,.int .u8 23,.int .u8 11,.int .u8 54,.int .u8 26,.int .u8 40,.int .u8 15,.int .u8 34,.int .u8 20,.int .u8 31,.int .u8 10,.int .u8 25,.int .u8 14,.int .u8 19,.int .u8 9,.int .u8 13,.int .u8 8,.int .u8 7,.int .u8 6])}
theorem aa8_ (os:Os):laidMet Tryz.prog Rows.allRow.laid ((qp_ os).forCall (fun _ _=>0) ⟨#[], #[.slice none 0 0],[]⟩).memory:=
  laidMet_of_run' 8 k_ k_
theorem aa9_ (os:Os){H:Type}(enc:TypeId×Value->H):∃places,DataW.whole enc Tryz.prog ((qp_ os).forCall (fun _ _=>0) ⟨#[], #[.slice none 0 0],[]⟩).memory Tryz.f10.params.toList Rows.allSpec.vars false #[Value.slice none 0 0].toList 8=some ([.nil],[],places):=
  ⟨[],k_⟩
set_option maxRecDepth 100000 in
theorem aba_ (os:Os)(started:os.Started)(H:Type)(enc:TypeId×Value->H)(F:Stop.Interp):
    ReturnsInHanded {} Tryz.checked os 10 .any ((OpenSpec.ofChange Rows.allSpec).preRow enc Tryz.prog Tryz.f10 Rows.allRow.domain false Rows.allRow.laid) (((OpenSpec.ofChange Rows.allSpec).at F).post enc Tryz.prog Tryz.f10 false true false false):=by
  obtain⟨l,j⟩:=aa9_ os enc;refine returnsInHanded_of_row (C:=Tryz.checked) (s:=OpenSpec.ofChange Rows.allSpec) own started k_ Tryz.func10
    (witness_row_at (enc:=enc) (C:=Tryz.checked) false (qp_ os) #[.slice none 0 0] rfl k_ k_ k_
      (OpenSpec.preRow_of_cond 8 j k_ (fun k hk=>by cases hk) k_ (aa8_ os))) ?_
  intro W b a d e c i g _ _ h f _ _;exact aa7_ H enc W b a d e c i g f h
theorem said:Rows.AllSaid:=
  OpenClaim.holds_of_cond 10 Tryz.f10 rfl rfl rfl rfl rfl rfl rfl ⟨rfl,rfl,rfl,rfl,rfl⟩ rfl rfl rfl rfl rfl k_ Tryz.func10 k_
    (of_decide_eq_true k_) (by unfold Func.isWrapper;first|(rw[if_pos (by decide+kernel)];kernel_rfl)|(rw[if_neg (by decide+kernel)];exact⟨rfl,rfl⟩))
    (fun os started H enc _ F=>by rw[OpenClaim.pre_eq_preRow];exact aba_ os started H enc F)
theorem plain (f:FuncId)(fn:Func)(hf:Tryz.pinned.checked.prog.funcNamed "tunes/tuneslaw.All" =some f)(hfn:Tryz.pinned.checked.prog.funcs[f]? =some fn):
    false=Tryz.pinned.checked.prog.looks []/\∀(j:Nat) t,fn.params[j]? =some t->Tryz.pinned.checked.prog.wantsStandIn t=false:=by
  obtain rfl:f=10:=Option.some.inj ((show Tryz.prog.funcNamed "tunes/tuneslaw.All" =some 10 by kernel_rfl).symm.trans hf)|>.symm
  obtain rfl:fn=Tryz.f10:=(Option.some.inj (Tryz.func10.symm.trans hfn)).symm;refine⟨k_,fun j t ht=> ?_⟩;rw[Tryz.params10]at ht;obtain rfl:t=22:=by simpa using Array.mem_of_getElem? ht
  exact(show Tryz.prog.wantsStandIn 22=false by kernel_rfl)
theorem card:Rows.AllCardSaid:=
  Claim7.holds_tied_plain_at .later [] _ _ _ _ said (fun _ h=>by cases h) k_ (fun _ h=>by cases h) all_row_tie rfl ⟨rfl,rfl⟩ k_ rfl plain k_
end Go.Proofs.YtpngikmcjkjdaaaGreatDoor.all
namespace Go.Proofs.YtpngikmcjkjdaaaGreatDoor
theorem all_holds:Rows.AllCardSaid:=all.card
end Go.Proofs.YtpngikmcjkjdaaaGreatDoor
