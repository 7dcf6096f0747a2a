import Derived.Deep.RegionWith
import Derived.Test.YtpngikmcjkjdaabG1
import Derived.Test.YtpngikmcjkjdaabG5
import Derived.Test.YtpngikmcjkjdaabG8
set_option linter.unusedVariables false
set_option linter.unusedSimpArgs false
namespace Go.Proofs.Ytpngikmcjkjdaab
open Go.RowKit
set_option linter.unusedVariables false
theorem zero_met2 (w : World) : Sem.run Try.prog (zeroValue 147) w = .ok (.agg (zs 2048)) w := by kernel_rfl
def setcells (ps : List Nat) : List Value := ps.map fun q => .int .i64 ((swp 1 q : Nat) : Int)
theorem setcells_snoc (ps : List Nat) (q : Nat) : setcells ps ++ [.int .i64 ((swp 1 q : Nat) : Int)] = setcells (ps ++ [q]) := by simp [setcells]
theorem setcells_at (ps : List Nat) (k : Nat) (hk : k < ps.length) : (setcells ps)[k]? = some (.int .i64 ((swp 1 (ps.getD k 0) : Nat) : Int)) := by
  simp [setcells, List.getD_eq_getElem?_getD, hk]
structure SetMem (W : World) (B : Nat) (w : World) (ps : List Nat) (vp va vn : Value) (k k' : Nat) (xa xn : List Value) : Prop where
  blw : Below B W w
  blk : w.heap[B]? = some (.cells #[va, vn] 125 (0, 0))
  met : w.rowIs (B + 1) 147 2048 (fun S => .int .i64 (metv ps (swp 1 S) : Nat))
  own0 : w.ownsRow (B + 1 + 1) 4 1 va k xa
  own1 : w.ownsRow (B + 1 + 1) 113 8 vn k' xn
  own2 : w.ownsRow (B + 1 + 1) 3 1 vp ps.length (setcells ps)
structure SetRound (W : World) (B H : Nat) (w : World) (ps : List Nat) (vp va vn : Value) (k : Nat) (xa xn : List Value) (r : Nat → Nat) : Prop where
  mem : SetMem W B w ps vp va vn k k xa xn
  rw : w.rowIs H 113 8 (fun c => .int .i64 (r c : Nat))
  lo : B + 1 + 1 ≤ H
  dp : ∀ g, vp.ownBlock = some g → g ≠ H
  da : ∀ g, va.ownBlock = some g → g < H
  dn : ∀ g, vn.ownBlock = some g → g < H
section
variable {W : World} {B H : Nat} {w w2 : World} {ps : List Nat} {vp va vn : Value} {k : Nat} {xa xn : List Value} {r : Nat → Nat}
theorem SetMem.below {k' : Nat} (h : SetMem W B w ps vp va vn k k' xa xn) (hb : Below w.heap.size w w2) : SetMem W B w2 ps vp va vn k k' xa xn where
  blw := h.blw.trans (hb.mono (by have := heap_lt h.blk; omega))
  blk := (hb.block _ (heap_lt h.blk)).trans h.blk
  met := h.met.of_block (hb.block _ h.met.lt)
  own0 := ownsRow_below h.own0 hb
  own1 := ownsRow_below h.own1 hb
  own2 := ownsRow_below h.own2 hb
theorem SetRound.below (h : SetRound W B H w ps vp va vn k xa xn r) (hb : Below w.heap.size w w2) : SetRound W B H w2 ps vp va vn k xa xn r :=
  ⟨h.mem.below hb, h.rw.of_block (hb.block _ h.rw.lt), h.lo, h.dp, h.da, h.dn⟩
theorem SetRound.grown (h : SetRound W B H w ps vp va vn k xa xn r) {q g cap : Nat} (hown : w2.ownsRow (B + 1 + 1) 3 1 (.slice (some ⟨g, 0, none⟩) (ps.length + 1) cap) (ps.length + 1) (setcells (ps ++ [q])))
    (hg : w.grownBy w2 vp.ownBlock) (hf : vp.ownBlock = some g ∨ g = w.heap.size) :
    Below B W w2 ∧ w2.heap[B]? = some (.cells #[va, vn] 125 (0, 0)) ∧ w2.rowIs (B + 1) 147 2048 (fun S => .int .i64 (metv ps (swp 1 S) : Nat)) ∧
      w2.ownsRow (B + 1 + 1) 4 1 va k xa ∧ w2.ownsRow (B + 1 + 1) 113 8 vn k xn ∧
      w2.rowIs H 113 8 (fun c => .int .i64 (r c : Nat)) ∧ g ≠ H := by
  have hm := h.mem
  have hsz := heap_lt hm.blk
  have hlt := fun x e => hm.own2.lt x e
  have hH1 := h.rw.lt
  refine ⟨hm.blw.grown hg (by omega) (fun x e => by have := (hlt x e).1; omega), ?_, rowIs_grown hm.met hg (fun e => by have := (hlt _ e).1; omega), ?_, ?_, rowIs_grown h.rw hg (fun e => h.dp _ e rfl), ?_⟩
  · rw [hg.block _ hsz (fun e => by have := (hlt _ e.symm).1; omega)]; exact hm.blk
  · refine hm.own0.kept hg ?_
    cases hv : va.ownBlock with
    | none => exact .inl rfl
    | some x => exact .inr (fun e => own_apart hm.own0 hm.own2 (by decide) x hv e.symm)
  · refine hm.own1.kept hg ?_
    cases hv : vn.ownBlock with
    | none => exact .inl rfl
    | some x => exact .inr (fun e => own_apart hm.own1 hm.own2 (by decide) x hv e.symm)
  · rcases hf with hf | rfl
    · exact h.dp g hf
    · omega
theorem SetRound.new (h : SetRound W B H w ps vp va vn k xa xn r) {S g cap c : Nat} (hq : swp 1 S ∉ ps) (hown : w2.ownsRow (B + 1 + 1) 3 1 (.slice (some ⟨g, 0, none⟩) (ps.length + 1) cap) (ps.length + 1) (setcells (ps ++ [swp 1 S])))
    (hg : w.grownBy w2 vp.ownBlock) (hf : vp.ownBlock = some g ∨ g = w.heap.size) :
    SetRound W B H ((w2.setCell ⟨B + 1, S, none⟩ (.int .i64 ((ps.length : Int) + 1))).setCell ⟨H, c, none⟩ (.int .i64 (ps.length : Int))) (ps ++ [swp 1 S]) (.slice (some ⟨g, 0, none⟩) (ps.length + 1) cap) va vn k xa xn (fun x => if x = c then ps.length else r x) := by
  obtain ⟨g1, g2, g3, g4, g5, g7, g8⟩ := h.grown hown hg hf
  have hlo := h.lo
  refine ⟨⟨(g1.setCell (p := ⟨B + 1, S, none⟩) (by simp) _).setCell (p := ⟨H, c, none⟩) (by simp; omega) _, heap_set_other (heap_set_other g2 (by simp)) (by simp; omega), ?_, ?_, ?_, ?_⟩,
    ?_, h.lo, ?_, h.da, h.dn⟩
  · refine ((g3.set S _).setOther (by simp; omega) _).congr (fun x _ => ?_)
    rw [metv_new ps (swp 1 S) (swp 1 x) hq]
    by_cases e : x = S
    · simp [e]
    · have e' : swp 1 x ≠ swp 1 S := fun h => e (by rw [← swp_swp 1 x, h, swp_swp])
      simp [e, e']
  · exact ownsRow_set (ownsRow_set g4 _ _ (fun x hx => by have := (g4.lt x hx).1; simp; omega)) _ _ (fun x hx => by have := h.da x hx; simp; omega)
  · exact ownsRow_set (ownsRow_set g5 _ _ (fun x hx => by have := (g5.lt x hx).1; simp; omega)) _ _ (fun x hx => by have := h.dn x hx; simp; omega)
  · simp only [List.length_append, List.length_singleton]
    exact ownsRow_set (ownsRow_set hown _ _ (fun x hx => by have := (hown.lt x hx).1; simp; omega)) _ _ (fun x hx => by simp only [Value.ownBlock, Option.some.injEq] at hx; subst hx; simpa using g8)
  · refine ((g7.setOther (a := ⟨B + 1, S, none⟩) (by simp; omega) _).set c _).congr (fun x _ => ?_)
    by_cases e : x = c
    · simp [e]
    · simp [e]
  · intro x hx
    simp only [Value.ownBlock, Option.some.injEq] at hx; subst hx; exact g8
theorem SetRound.old (h : SetRound W B H w ps vp va vn k xa xn r) {c v : Nat} :
    SetRound W B H (w.setCell ⟨H, c, none⟩ (.int .i64 (v : Int))) ps vp va vn k xa xn (fun x => if x = c then v else r x) := by
  have hm := h.mem
  have hlo := h.lo
  refine ⟨⟨hm.blw.setCell (p := ⟨H, c, none⟩) (by simp; omega) _, heap_set_other hm.blk (by simp; omega), hm.met.setOther (by simp; omega) _, ?_, ?_, ?_⟩, ?_, h.lo, h.dp, h.da, h.dn⟩
  · exact ownsRow_set hm.own0 _ _ (fun x hx => by have := h.da x hx; simp; omega)
  · exact ownsRow_set hm.own1 _ _ (fun x hx => by have := h.dn x hx; simp; omega)
  · exact ownsRow_set hm.own2 _ _ (fun x hx => by have := h.dp x hx; simpa using this)
  · refine (h.rw.set c _).congr (fun x _ => ?_)
    by_cases e : x = c
    · simp [e]
    · simp [e]
theorem SetRound.add (h : SetRound W B H w ps vp va vn k xa xn r) {va' vn' : Value} {ya yn : List Value} (hb : w2.heap[B]? = some (.cells #[va', vn'] 125 (0, 0)))
    (h0 : w2.ownsRow (B + 1 + 1) 4 1 va' (k + 1) ya) (h1 : w2.ownsRow (B + 1 + 1) 113 8 vn' (k + 1) yn)
    (ht : Touch (fun b => b = B ∨ va.ownBlock = some b ∨ vn.ownBlock = some b) w w2) : SetMem W B w2 ps vp va' vn' (k + 1) (k + 1) ya yn := by
  have hm := h.mem
  have hsz := heap_lt hm.blk
  refine ⟨ht.below hm.blw (by omega) ?_, hb, ht.row hm.met ?_, h0, h1, ht.own hm.own2 ?_⟩
  · rintro x (rfl | e | e)
    · omega
    · have := (hm.own0.lt _ e).1; omega
    · have := (hm.own1.lt _ e).1; omega
  · rintro (e | e | e)
    · omega
    · have := (hm.own0.lt _ e).1; omega
    · have := (hm.own1.lt _ e).1; omega
  · rintro g hg (rfl | e | e)
    · have := (hm.own2.lt _ hg).1; omega
    · exact own_apart hm.own2 hm.own0 (by decide) g hg e
    · exact own_apart hm.own2 hm.own1 (by decide) g hg e
theorem SetRound.rcongr (h : SetRound W B H w ps vp va vn k xa xn r) {r' : Nat → Nat} (e : ∀ x, x < 8 → r x = r' x) : SetRound W B H w ps vp va vn k xa xn r' :=
  ⟨h.mem, h.rw.congr (fun x hx => by rw [e x hx]), h.lo, h.dp, h.da, h.dn⟩
end
end Go.Proofs.Ytpngikmcjkjdaab

namespace Go.Proofs.Ytpngikmcjkjdaab
open Go.RowKit
set_option linter.unusedVariables false
set_option linter.unusedSimpArgs false
theorem acells_mach {m : Mach} {ps : List Nat} {q k : Nat} (hk : k ≤ ps.length) : acells (m.tab (ps ++ [q])).acc k = acells (m.tab ps).acc k := by
  induction k with
  | zero => rfl
  | succ k ih =>
    simp only [acells]
    rw [ih (by omega)]
    simp only [Mach.tab]
    rw [getD_app _ _ _ (by omega)]
theorem and_ne_int (S L : Nat) (hS : S < 2048) (hL : L < 2048) : (bits BinOp.and IntKind.i64 (S : Int) (L : Int) != 0) = (S &&& L != 0) := by
  rw [bits_and_i64 S L (by omega) (by omega), Bool.eq_iff_iff]
  simp
set_option maxRecDepth 20000 in
set_option maxHeartbeats 2000000 in
theorem mwiden_ok (bm gb n cap : Nat) (beh rdr : Nat → Nat) (lasts : Nat) (w : World) (hn : n ≤ 11) (hn1 : 1 ≤ n) (hL : lasts < 2048) (h : MachAt w bm (.slice (some ⟨gb, 0, none⟩) n cap) n beh rdr) :
    Calls Try.prog 73 #[.pointer (some ⟨bm, 0, none⟩), .int .i64 1, .int .i64 lasts] w
      fun e w' => Below w.heap.size w w' ∧ ∃ ps gw ga ca gn cn, PRel Mach.good (Mach.succ ⟨n, beh, rdr, lasts⟩) ps (8 * ps.length) ∧ e = .returned (.pointer (some ⟨gw, 0, none⟩)) ∧ WideAt w' gw ga ca gn cn (Mach.tab ⟨n, beh, rdr, lasts⟩ ps) := by
  have hz := zero_met2
  obtain ⟨m, HMM⟩ : ∃ m : Mach, Hid ((⟨n, beh, rdr, lasts⟩ : Mach) = m) := ⟨_, rfl⟩
  rw [HMM.out]
  obtain ⟨i3, hi3, hz3, hz31, hz32⟩ := info_parts Try.info3
  have Hmn : Hid (m.n = n) := by unfold Hid; rw [← HMM.out]
  have Hmb : Hid (m.beh = beh) := by unfold Hid; rw [← HMM.out]
  have Hmr : Hid (m.rdr = rdr) := by unfold Hid; rw [← HMM.out]
  have Hml : Hid (m.lasts = lasts) := by unfold Hid; rw [← HMM.out]
  have hbl : ∀ i, i < m.n → m.beh i < 2048 := by rw [Hmn.out, Hmb.out]; exact h.lb
  obtain ⟨W0, hW0⟩ : ∃ W, W = (w.alloc (.cells #[.slice none 0 0, .slice none 0 0] 125)).alloc (.cells (zs 2048) 147) := ⟨_, rfl⟩
  have BW0 : Below w.heap.size w W0 := by
    rw [hW0]; exact ((Below.refl _ _).alloc (Nat.le_refl _) _).alloc (by simp) _
  have hW0s : W0.heap.size = w.heap.size + 1 + 1 := by rw [hW0]; simp
  have b3 : W0.heap[w.heap.size]? = some (.cells #[.slice none 0 0, .slice none 0 0] 125 (0, 0)) := by rw [hW0]; exact heap_at_old (heap_at_new (by simp))
  have b4 : W0.heap[w.heap.size + 1]? = some (.cells (zs 2048) 147 (0, 0)) := by rw [hW0]; exact heap_at_new (by simp)
  have r4 : W0.rowIs (w.heap.size + 1) 147 2048 (fun _ => .int .i64 0) := ⟨_, b4, by simp [zs], fun i hi => by simp [zs, hi]⟩
  have s0 := r4.cell (i := 1) (by omega)
  have s1 := r4.frozen 1
  have R4 : Hid (W0.rowIs (w.heap.size + 1) 147 2048 (fun _ => .int .i64 0)) := r4
  clear r4 b4
  go_enter Try.func73, Try.ntmps73
  go_upto_region 3 with fail
  rw [← hW0]
  clear hW0 hz
  go_wp2_with fail
  clear s0 s1
  obtain ⟨W2, hW2⟩ : ∃ W, W = (W0.setCell ⟨w.heap.size + 1, 1, none⟩ (.int .i64 1)).alloc (.cells #[.int .i64 1] 3) := ⟨_, rfl⟩
  have P0 : SetMem W0 w.heap.size W2 [0] (.slice (some ⟨w.heap.size + 1 + 1, 0, none⟩) 1 1) (.slice none 0 0) (.slice none 0 0) 0 0 [] [] := by
    rw [hW2]
    refine ⟨((Below.refl _ _).setCell (p := ⟨w.heap.size + 1, 1, none⟩) (by simp) _).alloc (by simp; omega) _, heap_at_old (heap_set_other b3 (by simp)), ?_, World.ownsRow_nil _ _ _ _, World.ownsRow_nil _ _ _ _, ?_⟩
    · refine ((R4.out.set 1 (.int .i64 1)).congr (fun S _ => ?_)).alloc _
      by_cases e : S = 1
      · subst e; simp [metv, swp]
      · have : swp 1 S ≠ 0 := by unfold swp; rw [if_neg e]; split <;> omega
        simp [metv, e, this]
    · have h := World.ownsRow_lit (base := w.heap.size + 1 + 1) (e := 3) (size := 1) (W0.setCell ⟨w.heap.size + 1, 1, none⟩ (.int .i64 1)) #[.int .i64 1] 1 (by simp; omega) (by decide) rfl
      have hsz : (W0.setCell ⟨w.heap.size + 1, 1, none⟩ (.int .i64 1)).heap.size = W0.heap.size := by simp
      rw [hsz, hW0s] at h
      exact h
  rw [← hW2]
  clear hW2 R4 b3
  have hbig : ∀ qs r, PRel Mach.good m.succ qs r → qs.length ≤ 2048 := fun qs r h => Mach.bound h
  have hbm : bm < w.heap.size := h.blk.lt
  have hgb : gb < w.heap.size := (h.own.lt gb rfl).2
  have HMA : Hid (∀ wr, Below w.heap.size w wr → MachAt wr bm (.slice (some ⟨gb, 0, none⟩) n cap) n beh rdr) := fun wr hb => h.below hb
  have hlb := h.lb
  have hlr := h.lr
  clear h
  go_loopw [9, 10, 11, 12, 13, 14] (fun vs k' _ _ _ _ wr => ∃ (k : Nat) (ps : List Nat) (va vn : Value), k ≤ ps.length ∧ k' = .int .i64 k ∧ PRel Mach.good m.succ ps (8 * k) ∧ SetMem W0 w.heap.size wr ps vs va vn k k (acells (m.tab ps).acc k) (rcells (pn m.succ ps) k))
    (fun _ k' _ _ _ _ _ => 4096 - (intOf k').toNat)
  case atStart => exact ⟨0, [0], _, _, by simp, rfl, PRel.start (by unfold Mach.good; omega), P0⟩
  case round =>
    obtain ⟨k, ps, va, vn, hk, rfl, hR, hP⟩ := hrel
    clear P0
    have hbd := hbig _ _ hR
    have hlen := hR.len
    have hbw : Below w.heap.size w wr := BW0.trans (hP.blw.mono (by omega))
    obtain ⟨ap, cp, rfl, hap⟩ := ownsRow_shape hP.own2
    obtain ⟨gp, rfl, hcp⟩ := hap (by omega)
    have hszs := heap_lt hP.blk
    rename World => wo
    by_cases hlt : k < ps.length
    · have e0 := (hcp k (by omega)).trans (setcells_at ps k hlt)
      obtain ⟨q, HQ⟩ : ∃ x, Hid (ps.getD k 0 = x) := ⟨_, rfl⟩
      rw [HQ.out] at e0
      have hgq : q < 2048 := by rw [← HQ.out]; exact hR.inr _ (getD_mem ps k hlt)
      obtain ⟨S, HSQ⟩ : ∃ x, Hid (swp 1 q = x) := ⟨_, rfl⟩
      rw [HSQ.out] at e0
      have hS : S < 2048 := by rw [← HSQ.out]; exact swp_lt (by omega) hgq
      have hM := HMA.out wo hbw
      have x0 := hM.blk.cell (i := 0) (by omega)
      simp only [if_true] at x0
      have HC := follow_ok bm gb n cap beh S wo hn hS hlb x0 (fun i hi => (hM.own.cellAt i (by omega)).trans (by simp [icells, hi]))
      obtain ⟨nx, HNX⟩ : ∃ x, Hid (folF beh S n = x) := ⟨_, rfl⟩
      rw [HNX.out] at HC
      have hnx : nx < 2048 := by rw [← HNX.out]; exact folF_lt hlb
      have R0 : SetRound W0 w.heap.size wo.heap.size (wo.alloc (.cells #[.int .i64 0, .int .i64 0, .int .i64 0, .int .i64 0, .int .i64 0, .int .i64 0, .int .i64 0, .int .i64 0] 113)) ps (.slice (some ⟨gp, 0, none⟩) ps.length cp) va vn k (acells (m.tab ps).acc k) (rcells (pn m.succ ps) k) (fun _ => 0) := by
        refine ⟨hP.below ((Below.refl _ _).alloc (Nat.le_refl _) _), ⟨_, heap_at_new rfl, rfl, fun i hi => ?_⟩, by have := hP.met.lt; omega, fun g hg => ?_, fun g hg => (hP.own0.lt g hg).2, fun g hg => (hP.own1.lt g hg).2⟩
        · rcases (show i = 0 ∨ i = 1 ∨ i = 2 ∨ i = 3 ∨ i = 4 ∨ i = 5 ∨ i = 6 ∨ i = 7 by omega) with rfl | rfl | rfl | rfl | rfl | rfl | rfl | rfl <;> rfl
        · have := (hP.own2.lt g hg).2; omega
      have HR : Hid _ := hR
      have hmz := hP.met.lt
      clear hP hR hap hcp hM
      go_wp2_with (go_at_call 90; refine HC.mono ?_; rintro e w' ⟨rfl, rfl⟩)
      clear e0 x0 HC
      go_loopw [9, 13, 14] (fun vs c' _ wr => ∃ (c : Nat) (qs : List Nat), c ≤ 8 ∧ c' = .int .i64 c ∧ k < qs.length ∧ Hid (qs.getD k 0 = q) ∧ PRel Mach.good m.succ qs (8 * k + c) ∧ SetRound W0 w.heap.size wo.heap.size wr qs vs va vn k (acells (m.tab qs).acc k) (rcells (pn m.succ qs) k) (fun c' => if c' < c then pn m.succ qs k c' else 0))
        (fun _ c' _ _ => 8 - (intOf c').toNat)
      case atStart => exact ⟨0, ps, by omega, rfl, hlt, HQ, HR.out, R0.rcongr (fun x _ => by simp)⟩
      case round =>
        clear R0 HR HQ hlt hbd hlen
        obtain ⟨c, qs, hc, rfl, hlt, HQ, hR, hP⟩ := hrel
        have hbd := hbig _ _ hR
        have hlen := hR.len
        have hbw2 : Below w.heap.size w wr := BW0.trans (hP.mem.blw.mono (by omega))
        obtain ⟨ap, cp, rfl, hap⟩ := ownsRow_shape hP.mem.own2
        obtain ⟨gq, rfl, hcp⟩ := hap (by omega)
        have hszs2 := heap_lt hP.mem.blk
        have hM := HMA.out wr hbw2
        by_cases hl8 : c < 8
        · have x1 := hM.blk.cell (i := 1 + c) (by omega)
          rw [if_neg (by omega), show 1 + c - 1 = c by omega] at x1
          have hba := bits_and_i64 nx (rdr c) (by omega) (by have := hlr c hl8; omega)
          obtain ⟨T, HT⟩ : ∃ x, Hid (nx &&& rdr c = x) := ⟨_, rfl⟩
          rw [HT.out] at hba
          have hT : T < 2048 := by
            rw [← HT.out]
            have : nx &&& rdr c ≤ nx := Nat.and_le_left
            omega
          have HS1 : Hid (m.succ (qs.getD ((8 * k + c) / 8) 0) ((8 * k + c) % 8) = swp 1 T) := by
            unfold Hid
            rw [show (8 * k + c) / 8 = k by omega, show (8 * k + c) % 8 = c by omega, HQ.out]
            unfold Mach.succ Mach.step
            rw [HSQ.out, Hmn.out, Hmb.out, Hmr.out, HNX.out, HT.out]
          have m0 := hP.mem.met.cell (i := T) (by omega)
          have m1 := hP.mem.met.frozen T
          have r0 := hP.rw.cell hl8
          have r1 := hP.rw.frozen c
          simp only [Nat.lt_irrefl, if_false] at r0
          have HP : Hid (SetRound W0 w.heap.size wo.heap.size wr qs (.slice (some ⟨gq, 0, none⟩) qs.length cp) va vn k (acells (m.tab qs).acc k) (rcells (pn m.succ qs) k) (fun c' => if c' < c then pn m.succ qs k c' else 0)) := hP
          have HR : Hid (PRel Mach.good m.succ qs (8 * k + c)) := hR
          have HH := hP.rw.lt
          have HH2 := hP.lo
          clear hP hR hap hcp hM hbw2
          have d1 : ¬ wo.heap.size = w.heap.size + 1 := by omega
          have d2 : ¬ w.heap.size + 1 = wo.heap.size := by omega
          by_cases hmem : swp 1 T ∈ qs
          · have hmv : metv qs (swp 1 T) = qs.idxOf (swp 1 T) + 1 := by simp [metv, hmem]
            have hil := List.idxOf_lt_length_of_mem hmem
            rw [hmv] at m0
            obtain ⟨ix, HX⟩ : ∃ x, Hid (qs.idxOf (swp 1 T) = x) := ⟨_, rfl⟩
            rw [HX.out] at m0 hil
            have hpn : Hid (pn m.succ qs k c = ix) := by
              have := HS1.out
              rw [show (8 * k + c) / 8 = k by omega, show (8 * k + c) % 8 = c by omega] at this
              unfold Hid pn; rw [this]; exact HX.out
            have HM : Hid (swp 1 T ∈ qs) := hmem
            clear hmem hmv
            have mb : (((ix + 1 : Nat) : Int) == 0) = false := by simp; omega
            go_wp2_with fail
            go_roundw
            case rel =>
              have hm : m.succ (qs.getD ((8 * k + c) / 8) 0) ((8 * k + c) % 8) ∈ qs := by rw [HS1.out]; exact HM.out
              have hn := (HP.out.old (c := c) (v := ix)).rcongr (r' := fun c' => if c' < c + 1 then pn m.succ qs k c' else 0) (fun x _ => by
                by_cases e : x = c
                · subst e; simp [hpn.out]
                · by_cases h' : x < c
                  · simp only [e, h', if_false, if_true]; rw [if_pos (by omega)]
                  · simp only [e, h', if_false]; rw [if_neg (by omega)])
              exact ⟨c + 1, qs, by omega, by go_num, hlt, HQ, HR.out.old (by omega) hm, hn⟩
            case measure => simp [intOf]; omega
          · have hmv : metv qs (swp 1 T) = 0 := by simp [metv, hmem]
            rw [hmv] at m0
            have HM : Hid (swp 1 T ∉ qs) := hmem
            clear hmem hmv
            have HPa : Hid (SetRound W0 w.heap.size wo.heap.size (wr.alloc (.cells #[.int .i64 (T : Int)] 3)) qs (.slice (some ⟨gq, 0, none⟩) qs.length cp) va vn k (acells (m.tab qs).acc k) (rcells (pn m.succ qs) k) (fun c' => if c' < c then pn m.succ qs k c' else 0)) := HP.out.below ((Below.refl _ _).alloc (Nat.le_refl _) _)
            have hna := HPa.out.mem.own2
            have hcells : Hid (setcells qs ++ [.int .i64 (T : Int)] = setcells (qs ++ [swp 1 T])) := by
              have := setcells_snoc qs (swp 1 T)
              rw [swp_swp] at this
              exact this
            have HG : Hid (∀ g cap w2, w2.ownsRow (w.heap.size + 1 + 1) 3 1 (.slice (some ⟨g, 0, none⟩) (qs.length + 1) cap) (qs.length + 1) (setcells qs ++ [.int .i64 (T : Int)]) →
                (wr.alloc (.cells #[.int .i64 (T : Int)] 3)).grownBy w2 (Value.slice (some ⟨gq, 0, none⟩) qs.length cp).ownBlock → ((Value.slice (some ⟨gq, 0, none⟩) qs.length cp).ownBlock = some g ∨ g = (wr.alloc (.cells #[.int .i64 (T : Int)] 3)).heap.size) →
                w2.cell? ⟨w.heap.size + 1, T, none⟩ = some (.int .i64 0) ∧ w2.frozen? ⟨w.heap.size + 1, T, none⟩ = false ∧ w2.cell? ⟨wo.heap.size, c, none⟩ = some (.int .i64 0) ∧ w2.frozen? ⟨wo.heap.size, c, none⟩ = false ∧
                Hid (SetRound W0 w.heap.size wo.heap.size ((w2.setCell ⟨w.heap.size + 1, T, none⟩ (.int .i64 ((qs.length : Int) + 1))).setCell ⟨wo.heap.size, c, none⟩ (.int .i64 (qs.length : Int))) (qs ++ [swp 1 T]) (.slice (some ⟨g, 0, none⟩) (qs.length + 1) cap) va vn k (acells (m.tab qs).acc k) (rcells (pn m.succ qs) k) (fun x => if x = c then qs.length else if x < c then pn m.succ qs k x else 0))) := by
              intro g cap w2 ho hg hf
              rw [hcells.out] at ho
              obtain ⟨_, _, g3, _, _, g7, _⟩ := HPa.out.grown ho hg hf
              refine ⟨?_, g3.frozen _, ?_, g7.frozen _, HPa.out.new HM.out ho hg hf⟩
              · rw [g3.cell (by omega)]; simp [metv, HM.out]
              · rw [g7.cell hl8]; simp
            go_wp2_with (at_builtin; refine wpList_append_fresh _ rfl _ _ 22 rfl (w.heap.size + 1 + 1) 3 i3 (.int .i64 0) 1 8 Try.underlying22 hi3 hz3 hz31 hz32 rfl (by decide) _ qs.length (setcells qs) rfl hna ⟨wr.heap.size, 0, none⟩ 1 1 [.int .i64 (T : Int)] rfl rfl (cell_one_new _ _ _) (by intro u hu; simp at hu; subst hu; rfl) (by decide) (by unfold maxLen; omega) (by omega) (by simp; omega) ?_; intro g cap w2 hown hgr hfr; obtain ⟨f0, f1, f2, f3, HN⟩ := HG.out g cap w2 hown hgr hfr; clear hown hgr hfr)
            go_roundw
            case rel =>
              have hnm : m.succ (qs.getD ((8 * k + c) / 8) 0) ((8 * k + c) % 8) ∉ qs := by rw [HS1.out]; exact HM.out
              have hgd : Mach.good (m.succ (qs.getD ((8 * k + c) / 8) 0) ((8 * k + c) % 8)) := by
                rw [HS1.out]; exact swp_lt (by omega) hT
              have hnew := HR.out.new (by omega) hnm hgd
              rw [HS1.out] at hnew
              have hpnew : pn m.succ (qs ++ [swp 1 T]) k c = qs.length := by
                have := HS1.out
                rw [show (8 * k + c) / 8 = k by omega, show (8 * k + c) % 8 = c by omega] at this
                simp only [pn]
                rw [getD_app _ _ _ hlt, this, List.idxOf_append, if_neg HM.out]; simp
              have hn := HN.out.rcongr (r' := fun c' => if c' < c + 1 then pn m.succ (qs ++ [swp 1 T]) k c' else 0) (fun x hx => by
                by_cases e : x = c
                · subst e; simp [hpnew]
                · by_cases h' : x < c
                  · simp only [e, h', if_false, if_true]; rw [if_pos (by omega), pn_new HR.out k x hx (by omega)]
                  · simp only [e, h', if_false]; rw [if_neg (by omega)])
              rw [← acells_mach (m := m) (q := swp 1 T) (by omega), ← rcells_congr (X := pn m.succ (qs ++ [swp 1 T])) (fun x c' hx hc' => pn_new HR.out x c' hc' (by omega))] at hn
              exact ⟨c + 1, qs ++ [swp 1 T], by omega, by go_num, by simp; omega, by unfold Hid; rw [getD_app _ _ _ hlt]; exact HQ.out, hnew, hn⟩
            case measure => simp [intOf]; omega
        · have hc8 : c = 8 := by omega
          subst hc8
          have e0 := (hcp k (by omega)).trans (setcells_at qs k hlt)
          rw [HQ.out, HSQ.out] at e0
          have hba := and_ne_int S lasts hS hL
          obtain ⟨ab, HAB⟩ : ∃ x, Hid ((S &&& lasts != 0) = x) := ⟨_, rfl⟩
          rw [HAB.out] at hba
          have HP : Hid (SetRound W0 w.heap.size wo.heap.size wr qs (.slice (some ⟨gq, 0, none⟩) qs.length cp) va vn k (acells (m.tab qs).acc k) (rcells (pn m.succ qs) k) (fun c' => if c' < 8 then pn m.succ qs k c' else 0)) := hP
          have HR : Hid (PRel Mach.good m.succ qs (8 * k + 8)) := hR
          have HP3 : Hid (SetRound W0 w.heap.size wo.heap.size wr.drew qs (.slice (some ⟨gq, 0, none⟩) qs.length cp) va vn k (acells (m.tab qs).acc k) (rcells (pn m.succ qs) k) (fun c' => if c' < 8 then pn m.succ qs k c' else 0)) := HP.out.below (Below.refl wr.heap.size wr).drew
          have f2 := HP.out.rw
          have c0 := f2.cell (i := 0) (by omega)
          have c1 := f2.cell (i := 1) (by omega)
          have c2 := f2.cell (i := 2) (by omega)
          have c3 := f2.cell (i := 3) (by omega)
          have c4 := f2.cell (i := 4) (by omega)
          have c5 := f2.cell (i := 5) (by omega)
          have c6 := f2.cell (i := 6) (by omega)
          have c7 := f2.cell (i := 7) (by omega)
          simp only [show (0 : Nat) < 8 from by decide, show (1 : Nat) < 8 from by decide, show (2 : Nat) < 8 from by decide, show (3 : Nat) < 8 from by decide, show (4 : Nat) < 8 from by decide, show (5 : Nat) < 8 from by decide, show (6 : Nat) < 8 from by decide, show (7 : Nat) < 8 from by decide, if_true] at c0 c1 c2 c3 c4 c5 c6 c7
          have HA := add_ok w.heap.size (w.heap.size + 1 + 1) va vn k _ _ ab (pn m.succ qs k) wr.drew HP3.out.mem.blk HP3.out.mem.own0 HP3.out.mem.own1 (by omega) (by have := HP3.out.mem.met.lt; omega) (by omega)
          unfold row8 at HA
          clear hP hR hap hcp hM hbw2 f2 HP
          go_wp2_with fail
          go_region_with (go_at_call 78; refine HA.mono ?_; rintro e w6 ⟨rfl, va', vn', f0, f1, f2, f3, _, _⟩; have F1 : Hid _ := HP3.out.add f0 f1 f2 f3; clear f0 f1 f2 f3)
          all_goals
            go_wp2_with fail
            go_roundw
            case rel =>
              have f1 := F1.out
              have ea : acells (m.tab qs).acc k ++ [.bool ab] = acells (m.tab qs).acc (k + 1) := by
                simp only [acells, Mach.tab]; rw [HQ.out, HSQ.out, Hml.out, HAB.out]
              have er : rcells (pn m.succ qs) k ++ [(.int .i64 ((pn m.succ qs k 0 : Nat) : Int)), (.int .i64 ((pn m.succ qs k 1 : Nat) : Int)), (.int .i64 ((pn m.succ qs k 2 : Nat) : Int)), (.int .i64 ((pn m.succ qs k 3 : Nat) : Int)), (.int .i64 ((pn m.succ qs k 4 : Nat) : Int)), (.int .i64 ((pn m.succ qs k 5 : Nat) : Int)), (.int .i64 ((pn m.succ qs k 6 : Nat) : Int)), (.int .i64 ((pn m.succ qs k 7 : Nat) : Int))] = rcells (pn m.succ qs) (k + 1) := by
                simp only [rcells]; rfl
              rw [ea, er] at f1
              exact ⟨k + 1, qs, _, _, by omega, by go_num, by rw [show 8 * (k + 1) = 8 * k + 8 by omega]; exact HR.out, f1⟩
            case measure => simp [intOf]; omega
    · have he : k = ps.length := by omega
      subst he
      obtain ⟨y0, y1, _, _⟩ := cell_two hP.blk
      obtain ⟨aa, ca, rfl, haa⟩ := ownsRow_shape hP.own0
      obtain ⟨an, cn, rfl, han⟩ := ownsRow_shape hP.own1
      obtain ⟨ga, rfl, _⟩ := haa hR.len
      obtain ⟨gn, rfl, _⟩ := han hR.len
      have HP : Hid _ := hP
      have HR : Hid (PRel Mach.good m.succ ps (8 * ps.length)) := hR
      have HY0 : Hid _ := y0
      have HY1 : Hid _ := y1
      clear hP hR hap y0 y1
      go_wp2_with fail
      go_ret
      have hp := HP.out
      refine ⟨hbw, ps, w.heap.size, ga, ca, gn, cn, HR.out, rfl, ⟨HY0.out, HY1.out, fun x hx => ?_, fun x c hx hc => ?_⟩⟩
      · have hx' : x < ps.length := hx
        rw [hp.own0.cellAt x (by omega)]
        exact acells_at _ _ _ hx'
      · have hx' : x < ps.length := hx
        rw [hp.own1.cellAt (x * 8 + c) (by omega)]
        exact rcells_at _ _ _ _ hx' hc
end Go.Proofs.Ytpngikmcjkjdaab

namespace Go.Proofs.Ytpngikmcjkjdaab
set_option linter.unusedVariables false
structure Nd where
  kind : Nat
  size : Nat
  S : Nat → Bool
  least : Nat
  copies : Nat
  en : Bool
  one : Nat
  two : Nat
inductive NodeIs (L : List Nd) : Nat → Pat → Prop where
  | none {i : Nat} {d : Nd} (h : L[i]? = some d) (hk : d.kind = 0) (hs : d.size = 0) : NodeIs L i .none
  | one {i : Nat} {d : Nd} {S : Nat → Bool} (h : L[i]? = some d) (hk : d.kind = 1) (hs : d.size = 1) (hS : d.S = S) : NodeIs L i (.one S)
  | chain {i o t : Nat} {d : Nd} {a b : Pat} (h : L[i]? = some d) (hk : d.kind = 2) (hs : d.size = a.size + b.size) (ho : d.one = o) (ht : d.two = t) (h1 : NodeIs L o a) (h2 : NodeIs L t b) : NodeIs L i (.chain a b)
  | alt {i o t : Nat} {d : Nd} {a b : Pat} (h : L[i]? = some d) (hk : d.kind = 3) (hs : d.size = a.size + b.size) (ho : d.one = o) (ht : d.two = t) (h1 : NodeIs L o a) (h2 : NodeIs L t b) : NodeIs L i (.alt a b)
  | rep {i o lo co : Nat} {en : Bool} {d : Nd} {a : Pat} (h : L[i]? = some d) (hk : d.kind = 4) (hs : d.size = a.size * co) (ho : d.one = o) (hl : d.least = lo) (hc : d.copies = co) (he : d.en = en) (h1 : NodeIs L o a) : NodeIs L i (.rep a lo co en)
theorem nd_app {L M : List Nd} {i : Nat} {d : Nd} (h : L[i]? = some d) : (L ++ M)[i]? = some d := by
  rw [List.getElem?_append_left (List.getElem?_eq_some_iff.1 h).1]; exact h
theorem NodeIs.app {L : List Nd} {i : Nat} {p : Pat} (h : NodeIs L i p) (M : List Nd) : NodeIs (L ++ M) i p := by
  induction h with
  | none h hk hs => exact .none (nd_app h) hk hs
  | one h hk hs hS => exact .one (nd_app h) hk hs hS
  | chain h hk hs ho ht _ _ h1 h2 => exact .chain (nd_app h) hk hs ho ht h1 h2
  | alt h hk hs ho ht _ _ h1 h2 => exact .alt (nd_app h) hk hs ho ht h1 h2
  | rep h hk hs ho hl hc he _ h1 => exact .rep (nd_app h) hk hs ho hl hc he h1
theorem NodeIs.node {L : List Nd} {i : Nat} {p : Pat} (h : NodeIs L i p) : ∃ d, L[i]? = some d ∧ d.size = p.size := by
  cases h with
  | none h hk hs => exact ⟨_, h, hs⟩
  | one h hk hs hS => exact ⟨_, h, hs⟩
  | chain h hk hs => exact ⟨_, h, hs⟩
  | alt h hk hs => exact ⟨_, h, hs⟩
  | rep h hk hs => exact ⟨_, h, hs⟩
theorem NodeIs.lt {L : List Nd} {i : Nat} {p : Pat} (h : NodeIs L i p) : i < L.length := by
  obtain ⟨d, h, _⟩ := h.node
  exact (List.getElem?_eq_some_iff.1 h).1
end Go.Proofs.Ytpngikmcjkjdaab

namespace Go.Proofs.Ytpngikmcjkjdaab
open Go.RowKit
set_option linter.unusedVariables false
def ParAt (w : World) (bp : Nat) (s : ByteArray) (a : Nat) (vn : Value) (bk : Bool) (sp : Int) : Prop := w.heap[bp]? = some (.cells #[.string s, .int .i64 (a : Int), vn, .bool bk, .int .i64 sp] 85 (0, 0))
theorem ParAt.cells {w : World} {bp : Nat} {s : ByteArray} {a : Nat} {vn : Value} {bk : Bool} {sp : Int} (h : ParAt w bp s a vn bk sp) : w.cell? ⟨bp, 0, none⟩ = some (.string s) ∧ w.cell? ⟨bp, 1, none⟩ = some (.int .i64 (a : Int)) ∧ w.cell? ⟨bp, 2, none⟩ = some vn ∧ w.cell? ⟨bp, 3, none⟩ = some (.bool bk) ∧ w.cell? ⟨bp, 4, none⟩ = some (.int .i64 sp) ∧ w.frozen? ⟨bp, 1, none⟩ = false ∧ w.frozen? ⟨bp, 3, none⟩ = false ∧ w.frozen? ⟨bp, 4, none⟩ = false := by
  unfold ParAt at h
  simp [World.cell?, World.frozen?, h]
theorem ParAt.go {w : World} {bp : Nat} {s : ByteArray} {a : Nat} {vn : Value} {bk : Bool} {sp : Int} (h : ParAt w bp s a vn bk sp) (b : Nat) : ParAt (w.setCell ⟨bp, 1, none⟩ (.int .i64 (b : Int))) bp s b vn bk sp := by
  unfold ParAt at h ⊢
  simp [World.setCell, Array.getElem?_modify, h]
def hit (s : ByteArray) (a b : Nat) : Bool := decide (a < s.size) && ((s.data.toList.getD a 0).toNat == b)
theorem hit_at {s : ByteArray} {a b : Nat} (h : a < s.size) : hit s a b = (s[a].toNat == b) := by
  unfold hit
  have h' : a < s.data.toList.length := by rw [Array.length_toList]; exact h
  rw [List.getD_eq_getElem?_getD, List.getElem?_eq_getElem h']
  simp [h]
  rfl
set_option maxRecDepth 20000 in
set_option maxHeartbeats 1000000 in
theorem take_ok (bp : Nat) (s : ByteArray) (a b : Nat) (vn : Value) (bk : Bool) (sp : Int) (w : World) (hs : s.size ≤ 40) (h : ParAt w bp s a vn bk sp) :
    Calls Try.prog 86 #[.pointer (some ⟨bp, 0, none⟩), .int .u8 (b : Int)] w
      fun e w' => e = .returned (.bool (hit s a b)) ∧ ParAt w' bp s (if hit s a b then a + 1 else a) vn bk sp ∧ Touch (fun k => k = bp) w w' := by
  obtain ⟨c0, c1, c2, c3, c4, f1, f3, f4⟩ := h.cells
  have HP : Hid (ParAt w bp s a vn bk sp) := h
  have HD : ∀ q, Touch (fun k => k = bp) w (w.drewN q) := fun q => by
    have hb := below_drewN (Below.refl w.heap.size w) q
    exact ⟨hb.os, hb.tape, hb.output, hb.size, fun k hk _ => hb.block k hk⟩
  clear h
  by_cases hlt : a < s.size
  · have hh := hit_at (b := b) hlt
    have hnl : ¬ (s.size : Int) ≤ (a : Int) := by omega
    by_cases hb : s[a].toNat = b
    · have e1 : hit s a b = true := by rw [hh]; simp [hb]
      rw [e1]
      have hb1 : ((s[a].toNat : Int) != (b : Int)) = false := by simp [hb]
      clear hh e1
      go_enter Try.func86, Try.ntmps86
      go_wp2_with fail
      go_quiet (fail)
      go_wp2_with fail
      go_ret
      refine ⟨rfl, ?_, (HD nq).set ⟨bp, 1, none⟩ _ (.inl rfl)⟩
      have hg := ParAt.go (w := w.drewN nq) (b := a + 1) HP.out
      rw [show ((a + 1 : Nat) : Int) = (a : Int) + 1 by simp] at hg
      exact hg
    · have e1 : hit s a b = false := by rw [hh]; simp [hb]
      rw [e1]
      have hb1 : ((s[a].toNat : Int) != (b : Int)) = true := by simp; omega
      clear hh e1
      go_enter Try.func86, Try.ntmps86
      go_wp2_with fail
      go_quiet (fail)
      go_wp2_with fail
      go_ret
      exact ⟨rfl, HP.out, HD nq⟩
  · have e1 : hit s a b = false := by unfold hit; simp [hlt]
    rw [e1]
    have hnl : (s.size : Int) ≤ (a : Int) := by omega
    clear e1
    go_enter Try.func86, Try.ntmps86
    go_wp2_with fail
    go_quiet (fail)
    go_wp2_with fail
    go_ret
    exact ⟨rfl, HP.out, HD nq⟩
end Go.Proofs.Ytpngikmcjkjdaab

namespace Go.Proofs.Ytpngikmcjkjdaab
open Go.RowKit
set_option linter.unusedVariables false
def byteAt (s : ByteArray) (a : Nat) : Nat := (s.data.toList.getD a 0).toNat
theorem byteAt_eq {s : ByteArray} {a : Nat} (h : a < s.size) : byteAt s a = s[a].toNat := by
  unfold byteAt
  have h' : a < s.data.toList.length := by rw [Array.length_toList]; exact h
  rw [List.getD_eq_getElem?_getD, List.getElem?_eq_getElem h']
  rfl
theorem byteAt_end {s : ByteArray} {a : Nat} (h : ¬ a < s.size) : byteAt s a = 0 := by
  unfold byteAt
  rw [List.getD_eq_getElem?_getD, List.getElem?_eq_none (by rw [Array.length_toList]; exact Nat.le_of_not_lt h)]
  rfl
def noteHere (s : ByteArray) (a : Nat) : Bool := decide (97 ≤ byteAt s a) && decide (byteAt s a ≤ 104)
def digitHere (s : ByteArray) (a : Nat) : Bool := decide (48 ≤ byteAt s a) && decide (byteAt s a ≤ 57)
theorem touch_drew {bp : Nat} (w : World) (q : Nat) : Touch (fun k => k = bp) w (w.drewN q) := by
  have hb := below_drewN (Below.refl w.heap.size w) q
  exact ⟨hb.os, hb.tape, hb.output, hb.size, fun k hk _ => hb.block k hk⟩
theorem Touch.drewN {S : Nat → Prop} {w w2 : World} (h : Touch S w w2) (q : Nat) : Touch S w (w2.drewN q) := by
  have hb := below_drewN (Below.refl w2.heap.size w2) q
  exact ⟨hb.os.trans h.os, hb.tape.trans h.tape, hb.output.trans h.output, Nat.le_trans h.size hb.size, fun k hk hs => (hb.block k (Nat.lt_of_lt_of_le hk h.size)).trans (h.block k hk hs)⟩
set_option maxRecDepth 20000 in
set_option maxHeartbeats 1000000 in
theorem pnote_ok (bp : Nat) (s : ByteArray) (a : Nat) (vn : Value) (bk : Bool) (sp : Int) (w : World) (hs : s.size ≤ 40) (h : ParAt w bp s a vn bk sp) :
    Calls Try.prog 105 #[.pointer (some ⟨bp, 0, none⟩)] w
      fun e w' => e = .returned (.tuple #[.int .i64 (if noteHere s a then (byteAt s a : Int) - 97 else 0), .bool (noteHere s a)]) ∧ ParAt w' bp s (if noteHere s a then a + 1 else a) vn bk sp ∧ Touch (fun k => k = bp) w w' := by
  obtain ⟨c0, c1, c2, c3, c4, f1, f3, f4⟩ := h.cells
  have HP : Hid (ParAt w bp s a vn bk sp) := h
  clear h
  by_cases hlt : a < s.size
  · have hh := byteAt_eq hlt
    have hnl : ¬ (s.size : Int) ≤ (a : Int) := by omega
    by_cases hb : 97 ≤ s[a].toNat ∧ s[a].toNat ≤ 104
    · have e1 : noteHere s a = true := by unfold noteHere; rw [hh]; simp [hb.1, hb.2]
      simp only [e1, if_true]
      rw [hh]
      have HC := fun w => number_yes (s[a].toNat : Int) w (by omega) (by omega)
      clear hh e1
      go_enter Try.func105, Try.ntmps105
      go_wp2_with fail
      go_quiet (fail)
      go_wp2_with fail
      have HQ : Hid (ParAt (w.drewN nq) bp s a vn bk sp) := HP.out
      have hT := touch_drew (bp := bp) w nq
      generalize w.drewN nq = w2 at *
      obtain ⟨c0, c1, c2, c3, c4, f1, f3, f4⟩ := HQ.out.cells
      go_quiet ((go_at_call 58; exact Calls.quiet_of_same (HC _)))
      go_wp2_with fail
      go_ret2
      refine ⟨rfl, ?_, (hT.drewN nq).set ⟨bp, 1, none⟩ _ (.inl rfl)⟩
      have hg := ParAt.go (w := w2.drewN nq) (b := a + 1) HQ.out
      rw [show ((a + 1 : Nat) : Int) = (a : Int) + 1 by simp] at hg
      exact hg
    · have e1 : noteHere s a = false := by unfold noteHere; rw [hh]; simp; omega
      simp only [e1, Bool.false_eq_true, if_false]
      have HC := fun w => number_no (s[a].toNat : Int) w (by omega)
      clear hh e1
      go_enter Try.func105, Try.ntmps105
      go_wp2_with fail
      go_quiet (fail)
      go_wp2_with fail
      have HQ : Hid (ParAt (w.drewN nq) bp s a vn bk sp) := HP.out
      have hT := touch_drew (bp := bp) w nq
      generalize w.drewN nq = w2 at *
      obtain ⟨c0, c1, c2, c3, c4, f1, f3, f4⟩ := HQ.out.cells
      go_quiet ((go_at_call 58; exact Calls.quiet_of_same (HC _)))
      go_wp2_with fail
      go_ret2
      exact ⟨rfl, HQ.out, hT.drewN nq⟩
  · have e1 : noteHere s a = false := by unfold noteHere; rw [byteAt_end hlt]; simp
    simp only [e1, Bool.false_eq_true, if_false]
    have hnl : (s.size : Int) ≤ (a : Int) := by omega
    clear e1
    go_enter Try.func105, Try.ntmps105
    go_wp2_with fail
    go_quiet (fail)
    go_wp2_with fail
    go_ret2
    exact ⟨rfl, HP.out, touch_drew w nq⟩
end Go.Proofs.Ytpngikmcjkjdaab

namespace Go.Proofs.Ytpngikmcjkjdaab
open Go.RowKit
set_option linter.unusedVariables false
set_option maxRecDepth 20000 in
set_option maxHeartbeats 1000000 in
theorem digit_ok (bp : Nat) (s : ByteArray) (a : Nat) (vn : Value) (bk : Bool) (sp : Int) (w : World) (hs : s.size ≤ 40) (h : ParAt w bp s a vn bk sp) :
    Calls Try.prog 106 #[.pointer (some ⟨bp, 0, none⟩)] w
      fun e w' => e = .returned (.tuple #[.int .i64 (if digitHere s a then (byteAt s a : Int) - 48 else 0), .bool (digitHere s a)]) ∧ ParAt w' bp s (if digitHere s a then a + 1 else a) vn bk sp ∧ Touch (fun k => k = bp) w w' := by
  obtain ⟨c0, c1, c2, c3, c4, f1, f3, f4⟩ := h.cells
  have HP : Hid (ParAt w bp s a vn bk sp) := h
  clear h
  by_cases hlt : a < s.size
  · have hh := byteAt_eq hlt
    have hnl : ¬ (s.size : Int) ≤ (a : Int) := by omega
    by_cases hb : 48 ≤ s[a].toNat ∧ s[a].toNat ≤ 57
    · have e1 : digitHere s a = true := by unfold digitHere; rw [hh]; simp [hb.1, hb.2]
      simp only [e1, if_true]
      rw [hh]
      have q1 : ¬ (s[a].toNat : Int) < 48 := by omega
      have q2 : ¬ (57 : Int) < (s[a].toNat : Int) := by omega
      have q3 : (s[a].toNat : Int) ≤ 57 := by omega
      have q4 : (48 : Int) ≤ (s[a].toNat : Int) := by omega
      clear hh e1
      go_enter Try.func106, Try.ntmps106
      go_wp2_with fail
      go_quiet (fail)
      go_wp2_with fail
      have HQ : Hid (ParAt (w.drewN nq) bp s a vn bk sp) := HP.out
      have hT := touch_drew (bp := bp) w nq
      generalize w.drewN nq = w2 at *
      obtain ⟨c0, c1, c2, c3, c4, f1, f3, f4⟩ := HQ.out.cells
      go_quiet (fail)
      go_wp2_with fail
      go_ret2
      refine ⟨rfl, ?_, (hT.drewN nq).set ⟨bp, 1, none⟩ _ (.inl rfl)⟩
      have hg := ParAt.go (w := w2.drewN nq) (b := a + 1) HQ.out
      rw [show ((a + 1 : Nat) : Int) = (a : Int) + 1 by simp] at hg
      exact hg
    · have e1 : digitHere s a = false := by unfold digitHere; rw [hh]; simp; omega
      simp only [e1, Bool.false_eq_true, if_false]
      clear hh e1
      have hcase : (s[a].toNat : Int) < 48 ∨ (¬ (s[a].toNat : Int) < 48 ∧ (57 : Int) < (s[a].toNat : Int)) := by omega
      rcases hcase with q1 | ⟨q1, q2⟩
      all_goals
        go_enter Try.func106, Try.ntmps106
        go_wp2_with fail
        go_quiet (fail)
        go_wp2_with fail
        have HQ : Hid (ParAt (w.drewN nq) bp s a vn bk sp) := HP.out
        have hT := touch_drew (bp := bp) w nq
        generalize w.drewN nq = w2 at *
        obtain ⟨c0, c1, c2, c3, c4, f1, f3, f4⟩ := HQ.out.cells
        go_quiet (fail)
        go_wp2_with fail
        go_ret2
        exact ⟨rfl, HQ.out, hT.drewN nq⟩
  · have e1 : digitHere s a = false := by unfold digitHere; rw [byteAt_end hlt]; simp
    simp only [e1, Bool.false_eq_true, if_false]
    have hnl : (s.size : Int) ≤ (a : Int) := by omega
    clear e1
    go_enter Try.func106, Try.ntmps106
    go_wp2_with fail
    go_quiet (fail)
    go_wp2_with fail
    go_ret2
    exact ⟨rfl, HP.out, touch_drew w nq⟩
end Go.Proofs.Ytpngikmcjkjdaab

namespace Go.Proofs.Ytpngikmcjkjdaab
open Go.RowKit
set_option linter.unusedVariables false
theorem ParAt.back {w : World} {bp : Nat} {s : ByteArray} {a : Nat} {vn : Value} {bk : Bool} {sp : Int} (h : ParAt w bp s a vn bk sp) (pl : Int) : ParAt ((w.setCell ⟨bp, 3, none⟩ (.bool true)).setCell ⟨bp, 4, none⟩ (.int .i64 pl)) bp s a vn true pl := by
  unfold ParAt at h ⊢
  simp [World.setCell, Array.getElem?_modify, h]
set_option maxRecDepth 20000 in
set_option maxHeartbeats 1000000 in
theorem tellBackward_ok (bp : Nat) (s : ByteArray) (a : Nat) (vn : Value) (bk : Bool) (sp pl : Int) (w : World) (h : ParAt w bp s a vn bk sp) :
    Calls Try.prog 107 #[.pointer (some ⟨bp, 0, none⟩), .int .i64 pl] w
      fun e w' => e = .returned (.tuple #[]) ∧ ParAt w' bp s a vn true (if bk then sp else pl) ∧ Touch (fun k => k = bp) w w' := by
  obtain ⟨c0, c1, c2, c3, c4, f1, f3, f4⟩ := h.cells
  have HP : Hid (ParAt w bp s a vn bk sp) := h
  clear h
  cases bk
  · go_enter Try.func107, Try.ntmps107
    go_wp2_with fail
    go_end0
    exact ⟨rfl, HP.out.back pl, ((Touch.refl (fun k => k = bp) w).set ⟨bp, 3, none⟩ _ (.inl rfl)).set ⟨bp, 4, none⟩ _ (.inl rfl)⟩
  · go_enter Try.func107, Try.ntmps107
    go_wp2_with fail
    go_end0
    exact ⟨rfl, HP.out, Touch.refl _ w⟩
def endHere (s : ByteArray) (a : Nat) : Bool := decide (s.size ≤ a) || (byteAt s a == 124) || (byteAt s a == 41)
set_option maxRecDepth 20000 in
set_option maxHeartbeats 1000000 in
theorem atEnd_ok (bp : Nat) (s : ByteArray) (a : Nat) (vn : Value) (bk : Bool) (sp : Int) (w : World) (hs : s.size ≤ 40) (h : ParAt w bp s a vn bk sp) :
    Calls Try.prog 95 #[.pointer (some ⟨bp, 0, none⟩)] w
      fun e w' => e = .returned (.bool (endHere s a)) ∧ ParAt w' bp s a vn bk sp ∧ Touch (fun k => k = bp) w w' := by
  obtain ⟨c0, c1, c2, c3, c4, f1, f3, f4⟩ := h.cells
  have HP : Hid (ParAt w bp s a vn bk sp) := h
  clear h
  by_cases hlt : a < s.size
  · have hh := byteAt_eq hlt
    have hnl : ¬ (s.size : Int) ≤ (a : Int) := by omega
    have hcase : (s[a].toNat = 124) ∨ (s[a].toNat ≠ 124 ∧ s[a].toNat = 41) ∨ (s[a].toNat ≠ 124 ∧ s[a].toNat ≠ 41) := by omega
    have e1 : endHere s a = ((s[a].toNat == 124) || (s[a].toNat == 41)) := by unfold endHere; rw [hh, decide_eq_false (by omega), Bool.false_or]
    rw [e1]
    clear hh e1
    rcases hcase with q1 | ⟨q1, q2⟩ | ⟨q1, q2⟩
    · have b1 : ((s[a].toNat : Int) == 124) = true := by simp; omega
      have b3 : (s[a].toNat == 124) = true := by simp [q1]
      rw [b3, Bool.true_or]
      go_enter Try.func95, Try.ntmps95
      go_wp2_with fail
      go_quiet (fail)
      go_wp2_with fail
      have HQ : Hid (ParAt (w.drewN nq) bp s a vn bk sp) := HP.out
      have hT := touch_drew (bp := bp) w nq
      generalize w.drewN nq = w2 at *
      obtain ⟨c0, c1, c2, c3, c4, f1, f3, f4⟩ := HQ.out.cells
      go_quiet (fail)
      go_wp2_with fail
      go_ret
      exact ⟨ret_bool (by simp), HQ.out, hT.drewN nq⟩
    · have b1 : ((s[a].toNat : Int) == 124) = false := by simp; omega
      have b2 : ((s[a].toNat : Int) == 41) = true := by simp; omega
      have b4 : (s[a].toNat == 41) = true := by simp [q2]
      rw [b4, Bool.or_true]
      go_enter Try.func95, Try.ntmps95
      go_wp2_with fail
      go_quiet (fail)
      go_wp2_with fail
      have HQ : Hid (ParAt (w.drewN nq) bp s a vn bk sp) := HP.out
      have hT := touch_drew (bp := bp) w nq
      generalize w.drewN nq = w2 at *
      obtain ⟨c0, c1, c2, c3, c4, f1, f3, f4⟩ := HQ.out.cells
      go_quiet (fail)
      go_wp2_with fail
      go_ret
      exact ⟨ret_bool (by simp), HQ.out, hT.drewN nq⟩
    · have b1 : ((s[a].toNat : Int) == 124) = false := by simp; omega
      have b2 : ((s[a].toNat : Int) == 41) = false := by simp; omega
      have b3 : (s[a].toNat == 124) = false := by simp [q1]
      have b4 : (s[a].toNat == 41) = false := by simp [q2]
      rw [b3, b4, Bool.or_false]
      go_enter Try.func95, Try.ntmps95
      go_wp2_with fail
      go_quiet (fail)
      go_wp2_with fail
      have HQ : Hid (ParAt (w.drewN nq) bp s a vn bk sp) := HP.out
      have hT := touch_drew (bp := bp) w nq
      generalize w.drewN nq = w2 at *
      obtain ⟨c0, c1, c2, c3, c4, f1, f3, f4⟩ := HQ.out.cells
      go_quiet (fail)
      go_wp2_with fail
      go_ret
      exact ⟨ret_bool (by simp), HQ.out, hT.drewN nq⟩
  · have e1 : endHere s a = true := by unfold endHere; simp; left; left; omega
    rw [e1]
    have hnl : (s.size : Int) ≤ (a : Int) := by omega
    clear e1
    go_enter Try.func95, Try.ntmps95
    go_wp2_with fail
    go_quiet (fail)
    go_wp2_with fail
    go_ret
    exact ⟨rfl, HP.out, touch_drew w nq⟩
end Go.Proofs.Ytpngikmcjkjdaab

namespace Go.Proofs.Ytpngikmcjkjdaab
set_option linter.unusedVariables false
structure Sp where
  a : Nat
  bk : Bool
  sp : Nat
def Sp.go (t : Sp) : Sp := ⟨t.a + 1, t.bk, t.sp⟩
def Sp.tell (t : Sp) (pl : Nat) : Sp := ⟨t.a, true, if t.bk then t.sp else pl⟩
inductive Res (α : Type) where
  | no (t : Sp) : Res α
  | ok (x : α) (t : Sp) : Res α
section
variable (s : ByteArray)
def partF (t : Sp) : Res (Nat × Nat) :=
  if noteHere s t.a then
    if hit s (t.a + 1) 45 then
      if noteHere s (t.a + 1 + 1) then .ok (byteAt s t.a - 97, byteAt s (t.a + 1 + 1) - 97) t.go.go.go else .no t.go.go
    else .ok (byteAt s t.a - 97, byteAt s t.a - 97) t.go
  else .no t
def spanF (pl f g : Nat) (t : Sp) : Sp := if g < f then t.tell pl else t
def addSpan (N : Nat → Bool) (f g : Nat) : Nat → Bool := fun c => N c || (decide (f ≤ c) && decide (c ≤ g))
def setLoop : Nat → (Nat → Bool) → Sp → Res (Nat → Bool)
  | 0, _, t => .no t
  | n + 1, N, t =>
    match partF s t with
    | .no t' => .no t'
    | .ok (f, g) t' => if hit s t'.a 93 then .ok (addSpan N f g) (spanF t.a f g t').go else setLoop n (addSpan N f g) (spanF t.a f g t')
def setF (t : Sp) : Res (Nat → Bool) :=
  if hit s t.a 94 then
    match setLoop s (s.size + 1) (fun _ => false) t.go with
    | .no t' => .no t'
    | .ok N t' => .ok (fun c => !N c) t'
  else setLoop s (s.size + 1) (fun _ => false) t
def countF (t : Sp) : Res (Nat × Nat × Bool) :=
  if digitHere s t.a then
    if hit s (t.a + 1) 125 then .ok (byteAt s t.a - 48, byteAt s t.a - 48, false) t.go.go
    else if hit s (t.a + 1) 44 then
      if hit s (t.a + 1 + 1) 125 then .ok (byteAt s t.a - 48, byteAt s t.a - 48 + 1, true) t.go.go.go
      else if digitHere s (t.a + 1 + 1) then
        if hit s (t.a + 1 + 1 + 1) 125 then .ok (byteAt s t.a - 48, byteAt s (t.a + 1 + 1) - 48, false) (spanF t.a (byteAt s t.a - 48) (byteAt s (t.a + 1 + 1) - 48) t.go.go.go).go
        else .no (spanF t.a (byteAt s t.a - 48) (byteAt s (t.a + 1 + 1) - 48) t.go.go.go)
      else .no t.go.go
    else .no t.go
  else .no t
def atom0 (t : Sp) : Res Pat :=
  if hit s t.a 91 then
    match setF s t.go with
    | .no t' => .no t'
    | .ok N t' => .ok (.one N) t'
  else if hit s t.a 46 then .ok (.one (fun _ => true)) t.go
  else if noteHere s t.a then .ok (.one (fun c => decide (c = byteAt s t.a - 97))) t.go
  else .no t
def itemF (atom : Sp → Res Pat) (t : Sp) : Res Pat :=
  match atom t with
  | .no t' => .no t'
  | .ok p t1 =>
    if hit s t1.a 42 then .ok (.rep p 0 1 true) t1.go
    else if hit s t1.a 43 then .ok (.rep p 1 2 true) t1.go
    else if hit s t1.a 63 then .ok (.rep p 0 1 false) t1.go
    else if hit s t1.a 123 then
      match countF s t1.go with
      | .no t' => .no t'
      | .ok (lo, co, en) t' => .ok (.rep p lo co en) t'
    else .ok p t1
def seqF (atom : Sp → Res Pat) : Nat → Pat → Sp → Res Pat
  | 0, _, t => .no t
  | n + 1, p, t =>
    if endHere s t.a then .ok p t
    else match itemF s atom t with
      | .no t' => .no t'
      | .ok q t' => seqF atom n (.chain p q) t'
def patLoop (atom : Sp → Res Pat) : Nat → Pat → Sp → Res Pat
  | 0, _, t => .no t
  | n + 1, p, t =>
    if hit s t.a 124 then
      match seqF s atom (s.size + 1) .none t.go with
      | .no t' => .no t'
      | .ok q t' => patLoop atom n (.alt p q) t'
    else .ok p t
def patF (atom : Sp → Res Pat) (t : Sp) : Res Pat :=
  match seqF s atom (s.size + 1) .none t with
  | .no t' => .no t'
  | .ok p t' => patLoop s atom (s.size + 1) p t'
def atomF : Nat → Sp → Res Pat
  | 0 => atom0 s
  | k + 1 => fun t =>
    if hit s t.a 40 then
      match patF s (atomF k) t.go with
      | .no t' => .no t'
      | .ok p t' => if hit s t'.a 41 then .ok p t'.go else .no t'
    else atom0 s t
end
section
variable {s : ByteArray}
theorem hit_lt {a b : Nat} (h : hit s a b = true) : a < s.size := by
  unfold hit at h; simp at h; exact h.1
theorem note_lt {a : Nat} (h : noteHere s a = true) : a < s.size := by
  refine Classical.byContradiction fun hn => ?_
  unfold noteHere at h; rw [byteAt_end hn] at h; simp at h
theorem note_num {a : Nat} (h : noteHere s a = true) : byteAt s a - 97 < 8 ∧ 97 ≤ byteAt s a := by
  unfold noteHere at h; simp at h; omega
theorem digit_num {a : Nat} (h : digitHere s a = true) : byteAt s a - 48 < 10 ∧ 48 ≤ byteAt s a := by
  unfold digitHere at h; simp at h; omega
@[simp] theorem spanF_a (pl f g : Nat) (t : Sp) : (spanF pl f g t).a = t.a := by unfold spanF Sp.tell; split <;> rfl
@[simp] theorem go_a (t : Sp) : t.go.a = t.a + 1 := rfl
theorem partF_ok {t t' : Sp} {f g : Nat} (h : partF s t = .ok (f, g) t') : t.a < t'.a ∧ t'.a ≤ s.size ∧ f < 8 ∧ g < 8 := by
  unfold partF at h
  split at h
  · rename_i h1
    have n1 := note_num h1
    have l1 := note_lt h1
    split at h
    · rename_i h2
      split at h
      · rename_i h3
        have n3 := note_num h3
        have l3 := note_lt h3
        simp only [Res.ok.injEq, Prod.mk.injEq] at h
        obtain ⟨⟨rfl, rfl⟩, rfl⟩ := h
        simp only [go_a]; omega
      · simp at h
    · simp only [Res.ok.injEq, Prod.mk.injEq] at h
      obtain ⟨⟨rfl, rfl⟩, rfl⟩ := h
      simp only [go_a]; omega
  · simp at h
theorem setLoop_ok {n : Nat} {N N' : Nat → Bool} {t t' : Sp} (h : setLoop s n N t = .ok N' t') : t.a < t'.a ∧ t'.a ≤ s.size := by
  induction n generalizing N t with
  | zero => simp [setLoop] at h
  | succ n ih =>
    simp only [setLoop] at h
    cases hp : partF s t with
    | no t1 => rw [hp] at h; simp at h
    | ok x t1 =>
      obtain ⟨f, g⟩ := x
      rw [hp] at h
      have h1 := partF_ok hp
      simp only at h
      split at h
      · rename_i h2
        have l2 := hit_lt h2
        simp only [Res.ok.injEq] at h
        obtain ⟨_, rfl⟩ := h
        simp; omega
      · have := ih h
        simp at this; omega
theorem setF_ok {N : Nat → Bool} {t t' : Sp} (h : setF s t = .ok N t') : t.a < t'.a ∧ t'.a ≤ s.size := by
  unfold setF at h
  split at h
  · cases hp : setLoop s (s.size + 1) (fun _ => false) t.go with
    | no t1 => rw [hp] at h; simp at h
    | ok x t1 =>
      rw [hp] at h
      have := setLoop_ok hp
      simp only [Res.ok.injEq] at h
      obtain ⟨_, rfl⟩ := h
      simp at this; omega
  · exact setLoop_ok h
theorem countF_ok {lo co : Nat} {en : Bool} {t t' : Sp} (h : countF s t = .ok (lo, co, en) t') : t.a < t'.a ∧ t'.a ≤ s.size ∧ co ≤ 10 ∧ lo ≤ 9 := by
  unfold countF at h
  split at h
  · rename_i h1
    have n1 := digit_num h1
    split at h
    · rename_i h2
      have l2 := hit_lt h2
      simp only [Res.ok.injEq, Prod.mk.injEq] at h
      obtain ⟨⟨rfl, rfl, rfl⟩, rfl⟩ := h
      simp only [go_a]; omega
    · split at h
      · split at h
        · rename_i h2
          have l2 := hit_lt h2
          simp only [Res.ok.injEq, Prod.mk.injEq] at h
          obtain ⟨⟨rfl, rfl, rfl⟩, rfl⟩ := h
          simp only [go_a]; omega
        · split at h
          · rename_i h3
            have n3 := digit_num h3
            split at h
            · rename_i h4
              have l4 := hit_lt h4
              simp only [Res.ok.injEq, Prod.mk.injEq] at h
              obtain ⟨⟨rfl, rfl, rfl⟩, rfl⟩ := h
              simp only [go_a, spanF_a]; omega
            · simp at h
          · simp at h
      · simp at h
  · simp at h
def Goes (s : ByteArray) (B : Nat) (atom : Sp → Res Pat) : Prop := ∀ t p t', atom t = .ok p t' → t.a < t'.a ∧ t'.a ≤ s.size ∧ p.size ≤ (t'.a - t.a) * B
theorem atom0_goes : Goes s 1 (atom0 s) := by
  intro t p t' h
  unfold atom0 at h
  split at h
  · cases hp : setF s t.go with
    | no t1 => rw [hp] at h; simp at h
    | ok x t1 =>
      rw [hp] at h
      have := setF_ok hp
      simp only [Res.ok.injEq] at h
      obtain ⟨rfl, rfl⟩ := h
      simp at this
      simp only [Pat.size]; omega
  · split at h
    · rename_i h2
      have := hit_lt h2
      simp only [Res.ok.injEq] at h
      obtain ⟨rfl, rfl⟩ := h
      simp only [Pat.size, go_a]; omega
    · split at h
      · rename_i h2
        have := note_lt h2
        simp only [Res.ok.injEq] at h
        obtain ⟨rfl, rfl⟩ := h
        simp only [Pat.size, go_a]; omega
      · simp at h
theorem size_mul {x l l' B c : Nat} (h : x ≤ l * B) (hc : c ≤ 10) (hl : l ≤ l') : x * c ≤ l' * (B * 10) := by
  have h1 : x * c ≤ (l * B) * 10 := Nat.mul_le_mul h hc
  have h2 : l * B * 10 ≤ l' * B * 10 := Nat.mul_le_mul_right _ (Nat.mul_le_mul_right _ hl)
  rw [← Nat.mul_assoc]; omega
theorem itemF_goes {B : Nat} {atom : Sp → Res Pat} (ha : Goes s B atom) : Goes s (B * 10) (itemF s atom) := by
  intro t p t' h
  unfold itemF at h
  cases hp : atom t with
  | no t1 => rw [hp] at h; simp at h
  | ok q t1 =>
    rw [hp] at h
    obtain ⟨h1, h2, h3⟩ := ha _ _ _ hp
    simp only at h
    split at h
    · rename_i h4
      have := hit_lt h4
      simp only [Res.ok.injEq] at h
      obtain ⟨rfl, rfl⟩ := h
      refine ⟨by simp only [go_a]; omega, by simp only [go_a]; omega, size_mul h3 (by omega) (by simp only [go_a]; omega)⟩
    · split at h
      · rename_i h4
        have := hit_lt h4
        simp only [Res.ok.injEq] at h
        obtain ⟨rfl, rfl⟩ := h
        refine ⟨by simp only [go_a]; omega, by simp only [go_a]; omega, size_mul h3 (by omega) (by simp only [go_a]; omega)⟩
      · split at h
        · rename_i h4
          have := hit_lt h4
          simp only [Res.ok.injEq] at h
          obtain ⟨rfl, rfl⟩ := h
          refine ⟨by simp only [go_a]; omega, by simp only [go_a]; omega, size_mul h3 (by omega) (by simp only [go_a]; omega)⟩
        · split at h
          · cases hc : countF s t1.go with
            | no t2 => rw [hc] at h; simp at h
            | ok x t2 =>
              obtain ⟨lo, co, en⟩ := x
              rw [hc] at h
              have h5 := countF_ok hc
              simp only [Res.ok.injEq] at h
              obtain ⟨rfl, rfl⟩ := h
              simp only [go_a] at h5
              exact ⟨by omega, by omega, size_mul h3 h5.2.2.1 (by omega)⟩
          · simp only [Res.ok.injEq] at h
            obtain ⟨rfl, rfl⟩ := h
            have := size_mul (c := 1) h3 (by omega) (Nat.le_refl _)
            exact ⟨h1, h2, by omega⟩
theorem span_add {a b c : Nat} (h1 : a ≤ b) (h2 : b ≤ c) (B : Nat) : (b - a) * B + (c - b) * B = (c - a) * B := by
  rw [← Nat.add_mul]; congr 1; omega
theorem seqF_goes {B : Nat} {atom : Sp → Res Pat} (ha : Goes s B atom) {n : Nat} {p q : Pat} {t t' : Sp} (hz : t.a ≤ s.size) (h : seqF s atom n p t = .ok q t') : t.a ≤ t'.a ∧ t'.a ≤ s.size ∧ q.size ≤ p.size + (t'.a - t.a) * (B * 10) := by
  induction n generalizing p t with
  | zero => simp [seqF] at h
  | succ n ih =>
    simp only [seqF] at h
    split at h
    · simp only [Res.ok.injEq] at h
      obtain ⟨rfl, rfl⟩ := h
      omega
    · cases hp : itemF s atom t with
      | no t1 => rw [hp] at h; simp at h
      | ok q1 t1 =>
        rw [hp] at h
        obtain ⟨h1, h2, h3⟩ := itemF_goes ha _ _ _ hp
        obtain ⟨h4, h5, h6⟩ := ih h2 h
        have := span_add (Nat.le_of_lt h1) h4 (B * 10)
        simp only [Pat.size] at h6
        omega
theorem patLoop_goes {B : Nat} {atom : Sp → Res Pat} (ha : Goes s B atom) {n : Nat} {p q : Pat} {t t' : Sp} (hz : t.a ≤ s.size) (h : patLoop s atom n p t = .ok q t') : t.a ≤ t'.a ∧ t'.a ≤ s.size ∧ q.size ≤ p.size + (t'.a - t.a) * (B * 10) := by
  induction n generalizing p t with
  | zero => simp [patLoop] at h
  | succ n ih =>
    simp only [patLoop] at h
    split at h
    · rename_i hh
      have hl := hit_lt hh
      cases hp : seqF s atom (s.size + 1) .none t.go with
      | no t1 => rw [hp] at h; simp at h
      | ok q1 t1 =>
        rw [hp] at h
        obtain ⟨h1, h2, h3⟩ := seqF_goes ha (by simp only [go_a]; omega) hp
        obtain ⟨h4, h5, h6⟩ := ih h2 h
        simp only [Pat.size, go_a] at h1 h3 h6
        have := span_add (a := t.a) (by omega) h4 (B * 10)
        have h7 : (t1.a - (t.a + 1)) * (B * 10) ≤ (t1.a - t.a) * (B * 10) := Nat.mul_le_mul_right _ (by omega)
        omega
    · simp only [Res.ok.injEq] at h
      obtain ⟨rfl, rfl⟩ := h
      omega
theorem patF_goes {B : Nat} {atom : Sp → Res Pat} (ha : Goes s B atom) {q : Pat} {t t' : Sp} (hz : t.a ≤ s.size) (h : patF s atom t = .ok q t') : t.a ≤ t'.a ∧ t'.a ≤ s.size ∧ q.size ≤ (t'.a - t.a) * (B * 10) := by
  unfold patF at h
  cases hp : seqF s atom (s.size + 1) .none t with
  | no t1 => rw [hp] at h; simp at h
  | ok q1 t1 =>
    rw [hp] at h
    obtain ⟨h1, h2, h3⟩ := seqF_goes ha hz hp
    obtain ⟨h4, h5, h6⟩ := patLoop_goes ha h2 h
    have := span_add h1 h4 (B * 10)
    simp only [Pat.size] at h3
    omega
theorem atomF_goes (k : Nat) : Goes s (10 ^ k) (atomF s k) := by
  induction k with
  | zero => exact atom0_goes
  | succ k ih =>
    intro t p t' h
    simp only [atomF] at h
    split at h
    · rename_i hh
      have hl := hit_lt hh
      cases hp : patF s (atomF s k) t.go with
      | no t1 => rw [hp] at h; simp at h
      | ok q1 t1 =>
        rw [hp] at h
        obtain ⟨h1, h2, h3⟩ := patF_goes ih (by simp only [go_a]; omega) hp
        simp only at h
        split at h
        · rename_i hh2
          have hl2 := hit_lt hh2
          simp only [Res.ok.injEq] at h
          obtain ⟨rfl, rfl⟩ := h
          simp only [go_a] at h1 h3 ⊢
          refine ⟨by omega, by omega, ?_⟩
          rw [Nat.pow_succ]
          exact Nat.le_trans h3 (Nat.mul_le_mul_right _ (by omega))
        · simp at h
    · obtain ⟨h1, h2, h3⟩ := atom0_goes _ _ _ h
      refine ⟨h1, h2, Nat.le_trans h3 (Nat.mul_le_mul_left _ ?_)⟩
      exact Nat.pow_pos (by omega)
end
end Go.Proofs.Ytpngikmcjkjdaab
