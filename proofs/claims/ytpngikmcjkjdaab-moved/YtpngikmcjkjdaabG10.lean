import Derived.Test.YtpngikmcjkjdaabG5
import Derived.Test.YtpngikmcjkjdaabG8
import Derived.Test.YtpngikmcjkjdaabG9
set_option linter.unusedVariables false
set_option linter.unusedSimpArgs false
namespace Go.Proofs.Ytpngikmcjkjdaab
open Go.RowKit
set_option linter.unusedVariables false
set_option linter.unusedSimpArgs false
def nagg (d : Nd) : Array Value := #[.int .i64 ((d.kind : Nat) : Int), .int .i64 ((d.size : Nat) : Int), .bool (d.S 0), .bool (d.S 1), .bool (d.S 2), .bool (d.S 3), .bool (d.S 4), .bool (d.S 5), .bool (d.S 6), .bool (d.S 7), .int .i64 ((d.least : Nat) : Int), .int .i64 ((d.copies : Nat) : Int), .bool d.en, .int .i64 ((d.one : Nat) : Int), .int .i64 ((d.two : Nat) : Int)]
def ndcells (L : List Nd) : List Value := L.flatMap fun d => (nagg d).toList
theorem ndcells_snoc (L : List Nd) (d : Nd) : ndcells L ++ (nagg d).toList = ndcells (L ++ [d]) := by simp [ndcells]
theorem ndcells_at (L : List Nd) (i j : Nat) (d : Nd) (h : L[i]? = some d) (hj : j < 15) : (ndcells L)[i * 15 + j]? = (nagg d)[j]? := by
  induction L generalizing i with
  | nil => simp at h
  | cons e L ih =>
    cases i with
    | zero =>
      simp at h; subst h
      simp only [ndcells, List.flatMap_cons, Nat.zero_mul, Nat.zero_add]
      rw [List.getElem?_append_left (by simp [nagg]; omega)]
      simp
    | succ i =>
      have hl : (nagg e).toList.length = 15 := rfl
      simp only [ndcells, List.flatMap_cons]
      rw [List.getElem?_append_right (by rw [hl]; omega), hl, show (i + 1) * 15 + j - 15 = i * 15 + j by omega]
      exact ih i (by simpa using h)
structure ParM (w : World) (bp : Nat) (s : ByteArray) (t : Sp) (vn : Value) (L : List Nd) : Prop where
  par : ParAt w bp s t.a vn t.bk (t.sp : Int)
  own : w.ownsRow (bp + 1) 92 15 vn L.length (ndcells L)
theorem ParM.lt {w : World} {bp : Nat} {s : ByteArray} {t : Sp} {vn : Value} {L : List Nd} (h : ParM w bp s t vn L) : bp < w.heap.size := heap_lt h.par
theorem ParM.below {w w2 : World} {bp : Nat} {s : ByteArray} {t : Sp} {vn : Value} {L : List Nd} (h : ParM w bp s t vn L) (hb : Below w.heap.size w w2) : ParM w2 bp s t vn L :=
  ⟨(hb.block _ h.lt).trans h.par, ownsRow_below h.own hb⟩
theorem ParAt.nodes {w : World} {bp : Nat} {s : ByteArray} {a : Nat} {vn : Value} {bk : Bool} {sp : Int} (h : ParAt w bp s a vn bk sp) (u : Value) : ParAt (w.setCell ⟨bp, 2, none⟩ u) bp s a u bk sp := by
  unfold ParAt at h ⊢
  simp [World.setCell, Array.getElem?_modify, h]
theorem ParAt.frozen2 {w : World} {bp : Nat} {s : ByteArray} {a : Nat} {vn : Value} {bk : Bool} {sp : Int} (h : ParAt w bp s a vn bk sp) : w.frozen? ⟨bp, 2, none⟩ = false := by
  unfold ParAt at h
  simp [World.frozen?, h]
theorem Try.infoND : (Try.prog.info? 92).map (fun i => (i.zero, i.size, i.bytes)) = some (some (.agg #[.int .i64 0, .int .i64 0, .bool false, .bool false, .bool false, .bool false, .bool false, .bool false, .bool false, .bool false, .int .i64 0, .int .i64 0, .bool false, .int .i64 0, .int .i64 0]), 15, 64) := by kernel_rfl
set_option maxRecDepth 20000 in
set_option maxHeartbeats 4000000 in
theorem tnode_ok (bp : Nat) (s : ByteArray) (t : Sp) (vn : Value) (L : List Nd) (d : Nd) (w : World) (h : ParM w bp s t vn L) (hl : L.length ≤ 1000) :
    Calls Try.prog 94 #[.pointer (some ⟨bp, 2, none⟩), .agg (nagg d)] w
      fun e w' => e = .returned (.int .i64 ((L.length : Nat) : Int)) ∧ ∃ vn', ParM w' bp s t vn' (L ++ [d]) ∧ Below bp w w' := by
  obtain ⟨i8, hi8, hz8, hz81, hz82⟩ := info_parts Try.infoND
  have hbp := h.lt
  obtain ⟨W, hW⟩ : ∃ W, W = w.alloc (.cells (nagg d) 92) := ⟨_, rfl⟩
  have hWs : w.heap.size + 1 ≤ W.heap.size := by rw [hW]; simp
  have BW : Below w.heap.size w W := by rw [hW]; exact (Below.refl _ _).alloc (Nat.le_refl _) _
  have hW1 := h.below BW
  have br : W.heap[w.heap.size]? = some (.cells (nagg d) 92 (0, 0)) := by rw [hW]; exact heap_at_new rfl
  obtain ⟨x0, x1, x2, x3, x4, _, _, _⟩ := hW1.par.cells
  have x5 := hW1.par.frozen2
  clear x0 x1 x3 x4
  unfold nagg at hW
  have HRET : Hid (nagg d = #[.int .i64 ((d.kind : Nat) : Int), .int .i64 ((d.size : Nat) : Int), .bool (d.S 0), .bool (d.S 1), .bool (d.S 2), .bool (d.S 3), .bool (d.S 4), .bool (d.S 5), .bool (d.S 6), .bool (d.S 7), .int .i64 ((d.least : Nat) : Int), .int .i64 ((d.copies : Nat) : Int), .bool d.en, .int .i64 ((d.one : Nat) : Int), .int .i64 ((d.two : Nat) : Int)]) := rfl
  rw [HRET.out]
  go_enter Try.func94, Try.ntmps94
  go_upto_region 1 with fail
  rw [← hW]
  clear hW
  have c0 := cell_of_row W w.heap.size 0 (nagg d) 92 (0, 0) br
  have c1 := cell_of_row W w.heap.size 1 (nagg d) 92 (0, 0) br
  have c2 := cell_of_row W w.heap.size 2 (nagg d) 92 (0, 0) br
  have c3 := cell_of_row W w.heap.size 3 (nagg d) 92 (0, 0) br
  have c4 := cell_of_row W w.heap.size 4 (nagg d) 92 (0, 0) br
  have c5 := cell_of_row W w.heap.size 5 (nagg d) 92 (0, 0) br
  have c6 := cell_of_row W w.heap.size 6 (nagg d) 92 (0, 0) br
  have c7 := cell_of_row W w.heap.size 7 (nagg d) 92 (0, 0) br
  have c8 := cell_of_row W w.heap.size 8 (nagg d) 92 (0, 0) br
  have c9 := cell_of_row W w.heap.size 9 (nagg d) 92 (0, 0) br
  have c10 := cell_of_row W w.heap.size 10 (nagg d) 92 (0, 0) br
  have c11 := cell_of_row W w.heap.size 11 (nagg d) 92 (0, 0) br
  have c12 := cell_of_row W w.heap.size 12 (nagg d) 92 (0, 0) br
  have c13 := cell_of_row W w.heap.size 13 (nagg d) 92 (0, 0) br
  have c14 := cell_of_row W w.heap.size 14 (nagg d) 92 (0, 0) br
  simp [nagg] at c0 c1 c2 c3 c4 c5 c6 c7 c8 c9 c10 c11 c12 c13 c14
  have HPa : Hid (ParM (W.alloc (.cells (nagg d) 92)) bp s t vn L) := hW1.below ((Below.refl _ _).alloc (Nat.le_refl _) _)
  have hna := HPa.out.own
  have hbo : bp + 1 ≤ (W.alloc (.cells (nagg d) 92)).heap.size := by simp; omega
  have BWa : Below bp w (W.alloc (.cells (nagg d) 92)) := (BW.alloc (by omega) _).mono (by omega)
  have HG : Hid (∀ g' cap' w6, w6.ownsRow (bp + 1) 92 15 (.slice (some ⟨g', 0, none⟩) (L.length + 1) cap') (L.length + 1) (ndcells L ++ (nagg d).toList) → (W.alloc (.cells (nagg d) 92)).grownBy w6 vn.ownBlock →
      w6.cell? ⟨bp, 2, none⟩ = some vn ∧ w6.frozen? ⟨bp, 2, none⟩ = false ∧ Hid (ParM (w6.setCell ⟨bp, 2, none⟩ (.slice (some ⟨g', 0, none⟩) (L.length + 1) cap')) bp s t (.slice (some ⟨g', 0, none⟩) (L.length + 1) cap') (L ++ [d]) ∧ Below bp w (w6.setCell ⟨bp, 2, none⟩ (.slice (some ⟨g', 0, none⟩) (L.length + 1) cap')))) := by
    intro g' cap' w6 ho hg
    have hp := HPa.out
    have hlt := fun x e => hp.own.lt x e
    have hb6 : w6.heap[bp]? = (W.alloc (.cells (nagg d) 92)).heap[bp]? := hg.block bp hp.lt (fun e => by have := (hlt _ e.symm).1; omega)
    have hpar : ParAt w6 bp s t.a vn t.bk (t.sp : Int) := hb6.trans hp.par
    obtain ⟨_, _, z2, _, _, _, _, _⟩ := hpar.cells
    rw [ndcells_snoc] at ho
    refine ⟨z2, hpar.frozen2, ⟨hpar.nodes _, by rw [List.length_append]; exact ownsRow_setCell_below ho (by simp) _⟩, ?_⟩
    exact (BWa.grown hg (by have := hp.lt; omega) (fun x e => by have := (hlt x e).1; omega)).setCell (p := ⟨bp, 2, none⟩) (by simp) _
  clear hW1 br HPa BW BWa
  unfold nagg at hna hbo HG
  have hss : bp < W.heap.size := by omega
  have hss2 : w.heap.size < W.heap.size := by omega
  go_region_law
    ((refine step_append_lies _ (by rfl) _ _ _ (by rfl) (bp + 1) 92 i8 (.agg #[.int .i64 0, .int .i64 0, .bool false, .bool false, .bool false, .bool false, .bool false, .bool false, .bool false, .bool false, .int .i64 0, .int .i64 0, .bool false, .int .i64 0, .int .i64 0]) 15 64 Try.underlying81 hi8 hz8 hz81 hz82 rfl (by decide) vn L.length (ndcells L) (by rfl) hna ⟨W.heap.size, 0, none⟩ 1 1 [.int .i64 ((d.kind : Nat) : Int), .int .i64 ((d.size : Nat) : Int), .bool (d.S 0), .bool (d.S 1), .bool (d.S 2), .bool (d.S 3), .bool (d.S 4), .bool (d.S 5), .bool (d.S 6), .bool (d.S 7), .int .i64 ((d.least : Nat) : Int), .int .i64 ((d.copies : Nat) : Int), .bool d.en, .int .i64 ((d.one : Nat) : Int), .int .i64 ((d.two : Nat) : Int)] (by rfl) (by rfl) (cells_new _ _ _) (by intro u hu; simp at hu; rcases hu with rfl | rfl | rfl | rfl | rfl | rfl | rfl | rfl | rfl | rfl | rfl | rfl | rfl | rfl | rfl <;> rfl) (by decide) (by unfold maxLen; omega) (by omega) (by simp; omega) (W.heap.size + 1) (by simp) ?_; intro g' cap' w6 hown' hgr' hfr' hlt2; obtain ⟨f0, f1, F⟩ := HG.out g' cap' w6 hown' ⟨hgr'.os, hgr'.tape, hgr'.output, hgr'.size, hgr'.block⟩; clear hfr' hlt2 hown' hgr'))
  all_goals go_wp2_with fail
  all_goals
    go_ret
    exact ⟨by simp, ⟨_, F.out.1⟩, F.out.2⟩
end Go.Proofs.Ytpngikmcjkjdaab

namespace Go.Proofs.Ytpngikmcjkjdaab
open Go.RowKit
set_option linter.unusedVariables false
theorem linkF_lt {beh : Nat → Nat} {L F n : Nat} (hF : F < 2048) (hb : ∀ i, i < n → beh i < 2048) (i : Nat) (hi : i < n) : linkF beh L F i < 2048 := by
  unfold linkF
  split
  · exact Nat.or_lt_two_pow (n := 11) (hb i hi) hF
  · exact hb i hi
theorem cell_three' {w : World} {b : Nat} {x y z : Value} {t : TypeId} (h : w.heap[b]? = some (.cells #[x, y, z] t (0, 0))) : w.cell? ⟨b, 0, none⟩ = some x ∧ w.cell? ⟨b, 1, none⟩ = some y ∧ w.cell? ⟨b, 2, none⟩ = some z ∧ w.frozen? ⟨b, 0, none⟩ = false ∧ w.frozen? ⟨b, 1, none⟩ = false ∧ w.frozen? ⟨b, 2, none⟩ = false := by
  simp [World.cell?, World.frozen?, h]
theorem fin_three {w w1 : World} {bm gb n cap : Nat} {beh rdr : Nat → Nat} (hM : MachAt w1 bm (.slice (some ⟨gb, 0, none⟩) n cap) n beh rdr) (hT : Touch (fun b => b = gb) w w1) (hbm : bm < w.heap.size) (hgb : gb < w.heap.size) {b : Nat} {x y z : Value} {t : TypeId} (hb : w.heap.size ≤ b)
    (hblk : w1.heap[b]? = some (.cells #[x, y, z] t (0, 0))) (u v s : Value) (o : Obj) :
    ((((w1.setCell ⟨b, 0, none⟩ u).setCell ⟨b, 1, none⟩ v).setCell ⟨b, 2, none⟩ s).alloc o).cell? ⟨b, 0, none⟩ = some u ∧ ((((w1.setCell ⟨b, 0, none⟩ u).setCell ⟨b, 1, none⟩ v).setCell ⟨b, 2, none⟩ s).alloc o).cell? ⟨b, 1, none⟩ = some v ∧ ((((w1.setCell ⟨b, 0, none⟩ u).setCell ⟨b, 1, none⟩ v).setCell ⟨b, 2, none⟩ s).alloc o).cell? ⟨b, 2, none⟩ = some s ∧
    MachAt ((((w1.setCell ⟨b, 0, none⟩ u).setCell ⟨b, 1, none⟩ v).setCell ⟨b, 2, none⟩ s).alloc o) bm (.slice (some ⟨gb, 0, none⟩) n cap) n beh rdr ∧ Touch (fun b => b = gb) w ((((w1.setCell ⟨b, 0, none⟩ u).setCell ⟨b, 1, none⟩ v).setCell ⟨b, 2, none⟩ s).alloc o) := by
  have h3 : (((w1.setCell ⟨b, 0, none⟩ u).setCell ⟨b, 1, none⟩ v).setCell ⟨b, 2, none⟩ s).heap[b]? = some (.cells #[u, v, s] t (0, 0)) := by
    simp [World.setCell, Array.getElem?_modify, hblk]
  obtain ⟨c0, c1, c2, _, _, _⟩ := cell_three' (heap_at_old (o := o) h3)
  have hown := fun g (e : (Value.slice (some (⟨gb, 0, none⟩ : Addr)) n cap).ownBlock = some g) => (show g ≠ b by simp only [Value.ownBlock, Option.some.injEq] at e; omega)
  refine ⟨c0, c1, c2, ⟨(((hM.blk.setOther (by simp; omega) _).setOther (by simp; omega) _).setOther (by simp; omega) _).alloc o, (ownsRow_set (ownsRow_set (ownsRow_set hM.own _ _ hown) _ _ hown) _ _ hown).alloc o, hM.lb, hM.lr⟩, (((hT.set _ _ (.inr hb)).set _ _ (.inr hb)).set _ _ (.inr hb)).alloc o⟩
set_option maxRecDepth 20000 in
set_option maxHeartbeats 2000000 in
theorem mchain_ok (bm gb n cap : Nat) (beh rdr : Nat → Nat) (e1 e2 : Bool) (F1 L1 F2 L2 : Nat) (w : World) (hn : n ≤ 11) (h : MachAt w bm (.slice (some ⟨gb, 0, none⟩) n cap) n beh rdr) (hF1 : F1 < 2048) (hL1 : L1 < 2048) (hF2 : F2 < 2048) (hL2 : L2 < 2048) :
    Calls Try.prog 72 #[.pointer (some ⟨bm, 0, none⟩), .agg #[.bool e1, .int .i64 F1, .int .i64 L1], .agg #[.bool e2, .int .i64 F2, .int .i64 L2]] w
      fun e w' => e = .returned (.agg #[.bool (e1 && e2), .int .i64 (((if e1 then F1 ||| F2 else F1) : Nat) : Int), .int .i64 (((if e2 then L2 ||| L1 else L2) : Nat) : Int)]) ∧ MachAt w' bm (.slice (some ⟨gb, 0, none⟩) n cap) n (linkF beh L1 F2) rdr ∧ Touch (fun b => b = gb) w w' := by
  obtain ⟨W, hW⟩ : ∃ W, W = ((w.alloc (.cells #[.bool e1, .int .i64 F1, .int .i64 L1] 118)).alloc (.cells #[.bool e2, .int .i64 F2, .int .i64 L2] 118)).alloc (.cells #[.bool false, .int .i64 0, .int .i64 0] 118) := ⟨_, rfl⟩
  have BW : Below w.heap.size w W := by
    rw [hW]; exact (((Below.refl _ _).alloc (Nat.le_refl _) _).alloc (by simp) _).alloc (by simp; omega) _
  have hWs : w.heap.size + 1 + 1 < W.heap.size := by rw [hW]; simp
  have b0 : W.heap[w.heap.size]? = some (.cells #[.bool e1, .int .i64 F1, .int .i64 L1] 118 (0, 0)) := by rw [hW]; exact heap_at_old (heap_at_old (heap_at_new (by simp)))
  have b1 : W.heap[w.heap.size + 1]? = some (.cells #[.bool e2, .int .i64 F2, .int .i64 L2] 118 (0, 0)) := by rw [hW]; exact heap_at_old (heap_at_new (by simp))
  have b2 : W.heap[w.heap.size + 1 + 1]? = some (.cells #[.bool false, .int .i64 0, .int .i64 0] 118 (0, 0)) := by rw [hW]; exact heap_at_new (by simp)
  have h1 := h.below BW
  have x0 := h1.blk.cell (i := 0) (by omega)
  simp only [if_true] at x0
  have hgb := (h.own.lt gb rfl)
  have HC := link_ok bm (bm + 1) gb n cap beh L1 F2 W hn hL1 hF2 h.lb x0 (by omega) h1.own
  obtain ⟨y0, y1, y2, _, _, _⟩ := cell_three' b0
  obtain ⟨z0, z1, z2, _, _, _⟩ := cell_three' b1
  clear x0
  go_enter Try.func72, Try.ntmps72
  go_upto_region 1 with fail
  rw [← hW]
  clear hW
  go_wp2_with fail
  refine HC.mono ?_
  clear HC
  rintro e w1 ⟨rfl, hT, hO⟩
  have hs1 := hT.size
  have HM : Hid (MachAt w1 bm (.slice (some ⟨gb, 0, none⟩) n cap) n (linkF beh L1 F2) rdr) := ⟨h1.blk.of_block (hT.block _ h1.blk.lt (fun e => by have := hgb.1; omega)), hO, linkF_lt hF2 h.lb, h.lr⟩
  have HT0 : Hid (Touch (fun b => b = gb) w w1) := by
    refine ⟨hT.os.trans BW.os, hT.tape.trans BW.tape, hT.output.trans BW.output, by have := BW.size; omega, fun k hk hne => (hT.block k (by omega) hne).trans (BW.block k hk)⟩
  have a0 := (hT.block _ (by omega) (fun e => by have := hgb.2; omega)).trans b0
  have a1 := (hT.block _ (by omega) (fun e => by have := hgb.2; omega)).trans b1
  have a2 := (hT.block _ (by omega) (fun e => by have := hgb.2; omega)).trans b2
  obtain ⟨y0', y1', y2', _, _, _⟩ := cell_three' a0
  obtain ⟨z0', z1', z2', _, _, _⟩ := cell_three' a1
  obtain ⟨q0, q1, q2, p0, p1, p2⟩ := cell_three' a2
  have ho1 := bits_or_i64 F1 F2 hF1 hF2
  have ho2 := bits_or_i64 L2 L1 hL2 hL1
  clear y0 y1 y2 z0 z1 z2 hT hO h1 b0 b1 b2
  obtain ⟨o1, HO1⟩ : ∃ x, Hid (F1 ||| F2 = x) := ⟨_, rfl⟩
  obtain ⟨o2, HO2⟩ : ∃ x, Hid (L2 ||| L1 = x) := ⟨_, rfl⟩
  rw [HO1.out] at ho1
  rw [HO2.out] at ho2
  have na : ¬ w.heap.size = w1.heap.size := by omega
  have nb : ¬ w.heap.size + 1 = w1.heap.size := by omega
  have nc : ¬ w.heap.size + 1 + 1 = w1.heap.size := by omega
  have ma : w.heap.size < w1.heap.size := by omega
  have mb : w.heap.size + 1 < w1.heap.size := by omega
  have mc : w.heap.size + 1 + 1 < w1.heap.size := by omega
  have HA2 : Hid _ := a2
  clear a0 a1 a2
  have hbm : bm < w.heap.size := h.blk.lt
  cases e1
  · cases e2
    · go_wp2_with fail
      obtain ⟨r0, r1, r2, hm, ht⟩ := fin_three HM.out HT0.out hbm hgb.2 (show w.heap.size ≤ w.heap.size + 1 + 1 by omega) HA2.out (.bool false) (.int .i64 (F1 : Int)) (.int .i64 (L2 : Int)) (.cells #[.bool false, .int .i64 (F1 : Int), .int .i64 (L2 : Int)] 118)
      refine bodyPost_ret (v := .agg #[.bool false, .int .i64 (F1 : Int), .int .i64 (L2 : Int)]) (by simp [results, Try.results72, go_sem, r0, r1, r2]) rfl ?_
      exact ⟨by simp, hm, ht⟩
    · go_wp2_with fail
      obtain ⟨r0, r1, r2, hm, ht⟩ := fin_three HM.out HT0.out hbm hgb.2 (show w.heap.size ≤ w.heap.size + 1 + 1 by omega) HA2.out (.bool false) (.int .i64 (F1 : Int)) (.int .i64 (o2 : Int)) (.cells #[.bool false, .int .i64 (F1 : Int), .int .i64 (o2 : Int)] 118)
      refine bodyPost_ret (v := .agg #[.bool false, .int .i64 (F1 : Int), .int .i64 (o2 : Int)]) (by simp [results, Try.results72, go_sem, r0, r1, r2]) rfl ?_
      exact ⟨by simp [HO2.out], hm, ht⟩
  · cases e2
    · go_wp2_with fail
      obtain ⟨r0, r1, r2, hm, ht⟩ := fin_three HM.out HT0.out hbm hgb.2 (show w.heap.size ≤ w.heap.size + 1 + 1 by omega) HA2.out (.bool false) (.int .i64 (o1 : Int)) (.int .i64 (L2 : Int)) (.cells #[.bool false, .int .i64 (o1 : Int), .int .i64 (L2 : Int)] 118)
      refine bodyPost_ret (v := .agg #[.bool false, .int .i64 (o1 : Int), .int .i64 (L2 : Int)]) (by simp [results, Try.results72, go_sem, r0, r1, r2]) rfl ?_
      exact ⟨by simp [HO1.out], hm, ht⟩
    · go_wp2_with fail
      obtain ⟨r0, r1, r2, hm, ht⟩ := fin_three HM.out HT0.out hbm hgb.2 (show w.heap.size ≤ w.heap.size + 1 + 1 by omega) HA2.out (.bool true) (.int .i64 (o1 : Int)) (.int .i64 (o2 : Int)) (.cells #[.bool true, .int .i64 (o1 : Int), .int .i64 (o2 : Int)] 118)
      refine bodyPost_ret (v := .agg #[.bool true, .int .i64 (o1 : Int), .int .i64 (o2 : Int)]) (by simp [results, Try.results72, go_sem, r0, r1, r2]) rfl ?_
      exact ⟨by simp [HO1.out, HO2.out], hm, ht⟩
end Go.Proofs.Ytpngikmcjkjdaab

namespace Go.Proofs.Ytpngikmcjkjdaab
open Go.RowKit
set_option linter.unusedVariables false
set_option linter.unusedSimpArgs false
theorem Touch.join {S S' : Nat → Prop} {w w1 w2 : World} (h : Touch S w w1) (h' : Touch S' w1 w2) (hs : ∀ k, k < w.heap.size → S' k → S k) : Touch S w w2 :=
  ⟨h'.os.trans h.os, h'.tape.trans h.tape, h'.output.trans h.output, Nat.le_trans h.size h'.size, fun k hk hn => (h'.block k (Nat.lt_of_lt_of_le hk h.size) (fun e => hn (hs k hk e))).trans (h.block k hk hn)⟩
theorem below_touch {S : Nat → Prop} {w w1 : World} (h : Below w.heap.size w w1) : Touch S w w1 := ⟨h.os, h.tape, h.output, h.size, fun k hk _ => h.block k hk⟩
theorem own_ne {w : World} {base e s n t b : Nat} {v : Value} {x : List Value} {cs : Array Value} {fr : Nat × Nat} (h : w.ownsRow base e s v n x) (hb : w.heap[b]? = some (.cells cs t fr)) (hne : e ≠ t) : v.ownBlock ≠ some b := by
  intro hg
  rcases h.2 with ⟨rfl, _⟩ | ⟨a, cap, cur, rfl, _, h1, _⟩
  · simp [Value.ownBlock] at hg
  · simp only [Value.ownBlock, Option.some.injEq] at hg
    subst hg
    rw [h1] at hb
    simp only [Option.some.injEq, Obj.cells.injEq] at hb
    exact hne hb.2.1
structure Lays (bm : Nat) (vb : Value) (n : Nat) (beh rdr : Nat → Nat) (w : World) (vb' : Value) (n' : Nat) (beh' rdr' : Nat → Nat) (w' : World) : Prop where
  mach : MachAt w' bm vb' n' beh' rdr'
  fresh : ∀ c p, n' ≤ p → (rdr' c).testBit p = false
  behs : ∀ p, p < n → beh' p = beh p
  rdrs : ∀ p c, p < n → (rdr' c).testBit p = (rdr c).testBit p
  touch : Touch (fun b => b = bm ∨ vb.ownBlock = some b) w w'
  own : ∀ g, vb'.ownBlock = some g → vb.ownBlock = some g ∨ w.heap.size ≤ g
section
variable {bm : Nat} {vb vb1 vb2 : Value} {n n1 n2 : Nat} {beh beh1 beh2 rdr rdr1 rdr2 : Nat → Nat} {w w1 w2 : World}
theorem Lays.refl (h : MachAt w bm vb n beh rdr) (hf : ∀ c p, n ≤ p → (rdr c).testBit p = false) : Lays bm vb n beh rdr w vb n beh rdr w :=
  ⟨h, hf, fun _ _ => rfl, fun _ _ _ => rfl, Touch.refl _ _, fun g hg => .inl hg⟩
theorem Lays.grow (h : Lays bm vb n beh rdr w vb1 n1 beh1 rdr1 w1) (hb : Below w1.heap.size w1 w2) : Lays bm vb n beh rdr w vb1 n1 beh1 rdr1 w2 :=
  ⟨h.mach.below hb, h.fresh, h.behs, h.rdrs, h.touch.join (below_touch (S := fun _ => False) hb) (fun _ _ h => False.elim h), h.own⟩
theorem Lays.pre (h : Lays bm vb n beh rdr w1 vb1 n1 beh1 rdr1 w2) (hb : Below w.heap.size w w1) : Lays bm vb n beh rdr w vb1 n1 beh1 rdr1 w2 :=
  ⟨h.mach, h.fresh, h.behs, h.rdrs, (below_touch (S := fun b => b = bm ∨ vb.ownBlock = some b) hb).join h.touch (fun _ _ h => h), fun g hg => (h.own g hg).imp id (fun h => Nat.le_trans hb.size h)⟩
theorem Lays.trans (h : Lays bm vb n beh rdr w vb1 n1 beh1 rdr1 w1) (h' : Lays bm vb1 n1 beh1 rdr1 w1 vb2 n2 beh2 rdr2 w2) (hn : n ≤ n1) : Lays bm vb n beh rdr w vb2 n2 beh2 rdr2 w2 :=
  ⟨h'.mach, h'.fresh, fun p hp => (h'.behs p (by omega)).trans (h.behs p hp), fun p c hp => (h'.rdrs p c (by omega)).trans (h.rdrs p c hp),
    h.touch.join h'.touch (fun k hk hs => by
      rcases hs with hs | hs
      · exact .inl hs
      · rcases h.own k hs with h1 | h1
        · exact .inr h1
        · omega), fun g hg => by
      rcases h'.own g hg with h1 | h1
      · exact h.own g h1
      · right; have := h.touch.size; omega⟩
theorem linkF_out {beh : Nat → Nat} {L F p : Nat} (h : L.testBit p = false) : linkF beh L F p = beh p := by unfold linkF; rw [if_neg (by simp [h])]
theorem Lays.linked {gb cap L F : Nat} (h : Lays bm vb n beh rdr w (.slice (some ⟨gb, 0, none⟩) n1 cap) n1 beh1 rdr1 w1) (hm : MachAt w2 bm (.slice (some ⟨gb, 0, none⟩) n1 cap) n1 (linkF beh1 L F) rdr1) (ht : Touch (fun b => b = gb) w1 w2) (hL : ∀ p, L.testBit p = true → n ≤ p) :
    Lays bm vb n beh rdr w (.slice (some ⟨gb, 0, none⟩) n1 cap) n1 (linkF beh1 L F) rdr1 w2 :=
  ⟨hm, h.fresh, fun p hp => by
    rw [linkF_out (by
      cases hb : L.testBit p
      · rfl
      · have := hL p hb; omega)]
    exact h.behs p hp, h.rdrs, h.touch.join ht (fun k hk hs => by
      have hs' : k = gb := hs
      subst hs'
      rcases h.own k rfl with h1 | h1
      · exact .inr h1
      · omega), h.own⟩
theorem StrOk.F_lt {lo hi : Nat} {e : Bool} {F L : Nat} {l : List Nat → Prop} (h : StrOk rdr beh lo hi e F L l) (hh : hi ≤ 11) : F < 2048 :=
  Nat.lt_pow_two_of_testBit (n := 11) F (fun i hi => by
    cases hb : F.testBit i
    · rfl
    · have := (h.fi i hb).2; omega)
theorem StrOk.L_lt {lo hi : Nat} {e : Bool} {F L : Nat} {l : List Nat → Prop} (h : StrOk rdr beh lo hi e F L l) (hh : hi ≤ 11) : L < 2048 :=
  Nat.lt_pow_two_of_testBit (n := 11) L (fun i hi => by
    cases hb : L.testBit i
    · rfl
    · have := (h.la i hb).2; omega)
theorem StrOk.laid {lo : Nat} {e : Bool} {F L : Nat} {l : List Nat → Prop} (h : StrOk rdr1 beh1 lo n1 e F L l) (h' : Lays bm vb1 n1 beh1 rdr1 w1 vb2 n2 beh2 rdr2 w2) : StrOk rdr2 beh2 lo n1 e F L l :=
  h.later (fun p _ hp => h'.behs p hp) (fun p c hp => h'.rdrs p c hp)
end
end Go.Proofs.Ytpngikmcjkjdaab

namespace Go.Proofs.Ytpngikmcjkjdaab
open Go.RowKit
set_option linter.unusedVariables false
set_option linter.unusedSimpArgs false
theorem rowIs8b {w : World} {b t : Nat} {f : Nat → Bool} (h : w.rowIs b t 8 (fun i => .bool (f i))) :
    w.cell? ⟨b, 0, none⟩ = some (.bool (f 0)) ∧ w.cell? ⟨b, 1, none⟩ = some (.bool (f 1)) ∧ w.cell? ⟨b, 2, none⟩ = some (.bool (f 2)) ∧ w.cell? ⟨b, 3, none⟩ = some (.bool (f 3)) ∧ w.cell? ⟨b, 4, none⟩ = some (.bool (f 4)) ∧ w.cell? ⟨b, 5, none⟩ = some (.bool (f 5)) ∧ w.cell? ⟨b, 6, none⟩ = some (.bool (f 6)) ∧ w.cell? ⟨b, 7, none⟩ = some (.bool (f 7)) :=
  ⟨h.cell (i := 0) (by omega), h.cell (i := 1) (by omega), h.cell (i := 2) (by omega), h.cell (i := 3) (by omega), h.cell (i := 4) (by omega), h.cell (i := 5) (by omega), h.cell (i := 6) (by omega), h.cell (i := 7) (by omega)⟩
theorem rowIs8f {w : World} {b t : Nat} {f : Nat → Value} (h : w.rowIs b t 8 f) :
    w.frozen? ⟨b, 0, none⟩ = false ∧ w.frozen? ⟨b, 1, none⟩ = false ∧ w.frozen? ⟨b, 2, none⟩ = false ∧ w.frozen? ⟨b, 3, none⟩ = false ∧ w.frozen? ⟨b, 4, none⟩ = false ∧ w.frozen? ⟨b, 5, none⟩ = false ∧ w.frozen? ⟨b, 6, none⟩ = false ∧ w.frozen? ⟨b, 7, none⟩ = false :=
  ⟨h.frozen 0, h.frozen 1, h.frozen 2, h.frozen 3, h.frozen 4, h.frozen 5, h.frozen 6, h.frozen 7⟩
def put8b (w : World) (b : Nat) (f : Nat → Bool) : World := ((((((((w.setCell ⟨b, 0, none⟩ (.bool (f 0))).setCell ⟨b, 1, none⟩ (.bool (f 1))).setCell ⟨b, 2, none⟩ (.bool (f 2))).setCell ⟨b, 3, none⟩ (.bool (f 3))).setCell ⟨b, 4, none⟩ (.bool (f 4))).setCell ⟨b, 5, none⟩ (.bool (f 5))).setCell ⟨b, 6, none⟩ (.bool (f 6))).setCell ⟨b, 7, none⟩ (.bool (f 7)))
theorem put8b_row {w : World} {b t : Nat} {g : Nat → Value} (f : Nat → Bool) (h : w.rowIs b t 8 g) : (put8b w b f).rowIs b t 8 (fun i => .bool (f i)) := by
  unfold put8b
  refine ((((((((h.set 0 _).set 1 _).set 2 _).set 3 _).set 4 _).set 5 _).set 6 _).set 7 _).congr (fun i hi => ?_)
  rcases (show i = 0 ∨ i = 1 ∨ i = 2 ∨ i = 3 ∨ i = 4 ∨ i = 5 ∨ i = 6 ∨ i = 7 by omega) with rfl | rfl | rfl | rfl | rfl | rfl | rfl | rfl <;> simp
theorem put8b_below {W w : World} {B b : Nat} (f : Nat → Bool) (h : Below B W w) (hb : B ≤ b) : Below B W (put8b w b f) := by
  unfold put8b
  exact ((((((((h.setCell hb _).setCell hb _).setCell hb _).setCell hb _).setCell hb _).setCell hb _).setCell hb _).setCell hb _)
theorem put8b_touch {S : Nat → Prop} {W w : World} {b : Nat} (f : Nat → Bool) (h : Touch S W w) (hb : S b ∨ W.heap.size ≤ b) : Touch S W (put8b w b f) := by
  unfold put8b
  exact ((((((((h.set _ _ hb).set _ _ hb).set _ _ hb).set _ _ hb).set _ _ hb).set _ _ hb).set _ _ hb).set _ _ hb)
set_option maxRecDepth 20000 in
set_option maxHeartbeats 1600000 in
theorem others_ok (f : Nat → Bool) (w : World) :
    Calls Try.prog 104 #[.agg (bools8 f)] w fun e w' => e = .returned (.agg (bools8 (fun c => !f c))) ∧ Below w.heap.size w w' := by
  obtain ⟨W, hW⟩ : ∃ W, W = ((w.alloc (.cells (bools8 f) 88)).alloc (.cells (bools8 (fun _ => false)) 88)).alloc (.cells (bools8 (fun _ => false)) 88) := ⟨_, rfl⟩
  have BW : Below w.heap.size w W := by
    rw [hW]; exact (((Below.refl _ _).alloc (Nat.le_refl _) _).alloc (by simp) _).alloc (by simp; omega) _
  have hWs : W.heap.size = w.heap.size + 1 + 1 + 1 := by rw [hW]; simp
  have b0 : W.heap[w.heap.size]? = some (.cells (bools8 f) 88 (0, 0)) := by rw [hW]; exact heap_at_old (heap_at_old (heap_at_new (by simp)))
  have b1 : W.heap[w.heap.size + 1]? = some (.cells (bools8 (fun _ => false)) 88 (0, 0)) := by rw [hW]; exact heap_at_old (heap_at_new (by simp))
  have b2 : W.heap[w.heap.size + 1 + 1]? = some (.cells (bools8 (fun _ => false)) 88 (0, 0)) := by rw [hW]; exact heap_at_new (by simp)
  have r0 := bools8_is b0
  have r1 := bools8_is b1
  have r2 := bools8_is b2
  simp only [show bools8 (fun _ => false) = #[.bool false, .bool false, .bool false, .bool false, .bool false, .bool false, .bool false, .bool false] from rfl] at hW
  go_enter Try.func104, Try.ntmps104
  go_wp2_with fail
  rw [← hW]
  clear hW
  go_loopw [4] (fun i' wr => ∃ i : Nat, i ≤ 8 ∧ i' = .int .i64 i ∧ Below (w.heap.size + 1 + 1) W wr ∧ wr.rowIs (w.heap.size + 1 + 1) 88 8 (fun j => .bool (if j < i then !f j else false))) (fun i' _ => 8 - (intOf i').toNat)
  case atStart => exact ⟨0, by omega, rfl, Below.refl _ _, r2.congr (fun j _ => by simp)⟩
  case round =>
    obtain ⟨i, hi, rfl, hb, hr⟩ := hrel
    clear r2
    have r0' := r0.of_block (hb.block _ (by omega))
    have r1' := r1.of_block (hb.block _ (by omega))
    by_cases hlt : i < 8
    · have c0 := hr.cell (i := i) (by omega)
      have c1 := hr.frozen i
      have c2 := r0'.cell (i := i) (by omega)
      have HR : Hid (wr.rowIs (w.heap.size + 1 + 1) 88 8 (fun j => .bool (if j < i then !f j else false))) := hr
      have HB : Hid _ := hb
      clear hr hb r0' r1'
      obtain ⟨fi, HFI⟩ : ∃ x, Hid (f i = x) := ⟨_, rfl⟩
      rw [HFI.out] at c2
      go_wp2_with fail
      go_roundw
      case rel =>
        refine ⟨i + 1, by omega, by go_num, HB.out.setCell (p := ⟨w.heap.size + 1 + 1, i, none⟩) (Nat.le_refl _) _, (HR.out.set i _).congr (fun j _ => ?_)⟩
        by_cases e : j = i
        · subst e; simp [HFI.out]
        · by_cases h' : j < i
          · simp only [e, h', if_false, if_true]; rw [if_pos (by omega)]
          · simp only [e, h', if_false]; rw [if_neg (by omega)]
      case measure => simp [intOf]; omega
    · have he : i = 8 := by omega
      subst he
      have hr' : wr.rowIs (w.heap.size + 1 + 1) 88 8 (fun j => .bool ((fun c => !f c) j)) := hr.congr (fun j hj => by rw [if_pos hj])
      clear hr
      obtain ⟨g, hg⟩ : ∃ g : Nat → Bool, g = (fun c => !f c) := ⟨_, rfl⟩
      rw [← hg] at hr'
      obtain ⟨c0, c1, c2, c3, c4, c5, c6, c7⟩ := rowIs8b hr'
      obtain ⟨d0, d1, d2, d3, d4, d5, d6, d7⟩ := rowIs8b r1'
      obtain ⟨e0, e1, e2, e3, e4, e5, e6, e7⟩ := rowIs8f r1'
      have HR1 : Hid (wr.rowIs (w.heap.size + 1) 88 8 (fun i => .bool ((fun _ => false) i))) := r1'
      have HB : Hid _ := hb
      have HGG : Hid (g = (fun c => !f c)) := hg
      clear r0' r1' hr' hb hg r0 r1
      go_wp2_with fail
      obtain ⟨W9, hW9⟩ : ∃ W9, W9 = put8b wr (w.heap.size + 1) g := ⟨_, rfl⟩
      have hr9 := put8b_row g HR1.out
      have hb9 : Below w.heap.size w (put8b wr (w.heap.size + 1) g) := put8b_below g (BW.trans (HB.out.mono (by omega))) (by omega)
      rw [← hW9] at hr9 hb9
      unfold put8b at hW9
      rw [← hW9]
      clear hW9 c0 c1 c2 c3 c4 c5 c6 c7
      obtain ⟨c0, c1, c2, c3, c4, c5, c6, c7⟩ := rowIs8b hr9
      refine bodyPost_ret (v := .agg (bools8 g)) (by simp [results, Try.results104, go_sem, bools8, c0, c1, c2, c3, c4, c5, c6, c7]) rfl ?_
      exact ⟨by rw [HGG.out], hb9⟩
end Go.Proofs.Ytpngikmcjkjdaab

namespace Go.Proofs.Ytpngikmcjkjdaab
open Go.RowKit
set_option linter.unusedVariables false
set_option linter.unusedSimpArgs false
def AddPost (bp : Nat) (s : ByteArray) (t : Sp) (L : List Nd) (d : Nd) (w : World) (e : Ending) (w' : World) : Prop :=
  e = .returned (.int .i64 ((L.length : Nat) : Int)) ∧ ∃ vn', ParM w' bp s t vn' (L ++ [d]) ∧ Below bp w w'
set_option maxRecDepth 20000 in
set_option maxHeartbeats 4000000 in
theorem addSingle_ok (bp : Nat) (s : ByteArray) (t : Sp) (vn : Value) (L : List Nd) (f : Nat → Bool) (w : World) (h : ParM w bp s t vn L) (hl : L.length ≤ 1000) :
    Calls Try.prog 103 #[.pointer (some ⟨bp, 2, none⟩), .agg (bools8 f)] w (AddPost bp s t L ⟨1, 1, f, 0, 0, false, 0, 0⟩ w) := by
  have hbp := h.lt
  obtain ⟨W, hW⟩ : ∃ W, W = w.alloc (.cells (bools8 f) 88) := ⟨_, rfl⟩
  have BW : Below w.heap.size w W := by rw [hW]; exact (Below.refl _ _).alloc (Nat.le_refl _) _
  have b0 : W.heap[w.heap.size]? = some (.cells (bools8 f) 88 (0, 0)) := by rw [hW]; exact heap_at_new rfl
  obtain ⟨c0, c1, c2, c3, c4, c5, c6, c7⟩ := rowIs8b (bools8_is b0)
  have HC := tnode_ok bp s t vn L ⟨1, 1, f, 0, 0, false, 0, 0⟩ W (h.below BW) hl
  unfold nagg at HC
  simp only [show ((0 : Nat) : Int) = 0 from rfl, show ((1 : Nat) : Int) = 1 from rfl] at HC
  clear b0
  go_enter Try.func103, Try.ntmps103
  go_upto_region 1 with fail
  rw [← hW]
  clear hW
  go_wp2_with fail
  refine HC.mono ?_
  rintro e w1 ⟨rfl, vn', hp, hb⟩
  go_wp2_with fail
  go_ret
  exact ⟨rfl, vn', hp, (BW.mono (by omega)).trans hb⟩
theorem ParM.nd {w : World} {bp : Nat} {s : ByteArray} {t : Sp} {vn : Value} {L : List Nd} (h : ParM w bp s t vn L) {i : Nat} {d : Nd} (hi : L[i]? = some d) :
    ∃ g cap, vn = .slice (some ⟨g, 0, none⟩) L.length cap ∧ ∀ j, j < 15 → w.cell? ⟨g, i * 15 + j, none⟩ = (nagg d)[j]? := by
  have hlt : i < L.length := (List.getElem?_eq_some_iff.1 hi).1
  obtain ⟨ao, cap, rfl, hao⟩ := ownsRow_shape h.own
  obtain ⟨g, rfl, hcp⟩ := hao (by omega)
  exact ⟨g, cap, rfl, fun j hj => (hcp (i * 15 + j) (by omega)).trans (ndcells_at L i j d hi hj)⟩
set_option maxRecDepth 20000 in
set_option maxHeartbeats 4000000 in
theorem addTwo_ok (bp : Nat) (s : ByteArray) (t : Sp) (vn : Value) (L : List Nd) (kind one two : Nat) (d1 d2 : Nd) (w : World) (h : ParM w bp s t vn L) (hl : L.length ≤ 1000) (h1 : L[one]? = some d1) (h2 : L[two]? = some d2) (hs1 : d1.size ≤ 1000000000) (hs2 : d2.size ≤ 1000000000) :
    Calls Try.prog 87 #[.pointer (some ⟨bp, 2, none⟩), .int .i64 (kind : Int), .int .i64 (one : Int), .int .i64 (two : Int)] w (AddPost bp s t L ⟨kind, d1.size + d2.size, fun _ => false, 0, 0, false, one, two⟩ w) := by
  have hbp := h.lt
  obtain ⟨g, cap, rfl, hc1⟩ := h.nd h1
  obtain ⟨g', cap', he, hc2⟩ := h.nd h2
  simp only [Value.slice.injEq, Option.some.injEq, Addr.mk.injEq] at he
  obtain ⟨⟨rfl, _⟩, _, rfl⟩ := he
  have x1 := hc1 1 (by omega)
  have x2 := hc2 1 (by omega)
  obtain ⟨z1, Z1⟩ : ∃ z, Hid (d1.size = z) := ⟨_, rfl⟩
  obtain ⟨z2, Z2⟩ : ∃ z, Hid (d2.size = z) := ⟨_, rfl⟩
  simp [nagg] at x1 x2
  rw [Z1.out] at x1 hs1 ⊢
  rw [Z2.out] at x2 hs2 ⊢
  have hl1 : one < L.length := (List.getElem?_eq_some_iff.1 h1).1
  have hl2 : two < L.length := (List.getElem?_eq_some_iff.1 h2).1
  obtain ⟨_, _, x3, _, _, _, _, _⟩ := h.par.cells
  have HC := fun w => tnode_ok bp s t (.slice (some ⟨g, 0, none⟩) L.length cap) L ⟨kind, z1 + z2, fun _ => false, 0, 0, false, one, two⟩ w
  unfold nagg at HC
  simp only [show ((0 : Nat) : Int) = 0 from rfl, show ((4 : Nat) : Int) = 4 from rfl] at HC
  have HP : Hid (ParM w bp s t (.slice (some ⟨g, 0, none⟩) L.length cap) L) := h
  clear hc1 hc2 h h1 h2
  have hcast : ((z1 + z2 : Nat) : Int) = (z1 : Int) + (z2 : Int) := by simp
  rw [hcast] at HC
  clear hcast
  go_enter Try.func87, Try.ntmps87
  go_wp2_with fail
  go_quiet (fail)
  have HC2 := HC (w.drewN nq) (HP.out.below (below_drewN (Below.refl w.heap.size w) nq)) hl
  clear HC
  go_wp2_with fail
  refine HC2.mono ?_
  rintro e w1 ⟨rfl, vn', hp, hb⟩
  go_wp2_with fail
  go_ret
  exact ⟨rfl, vn', hp, ((below_drewN (Below.refl w.heap.size w) nq).mono (by omega)).trans hb⟩
theorem wrap_mul_small {a b : Int} (ha : 0 ≤ a) (hb : 0 ≤ b) (ha2 : a ≤ 1000000000) (hb2 : b ≤ 10) : wrap64 (a * b) = a * b := by
  have h1 : a * b ≤ 1000000000 * 10 := Int.mul_le_mul ha2 hb2 hb (by omega)
  have h2 : 0 ≤ a * b := Int.mul_nonneg ha hb
  unfold wrap64
  omega
set_option maxRecDepth 20000 in
set_option maxHeartbeats 4000000 in
theorem addRepeat_ok (bp : Nat) (s : ByteArray) (t : Sp) (vn : Value) (L : List Nd) (one lo co : Nat) (en : Bool) (d1 : Nd) (w : World) (h : ParM w bp s t vn L) (hl : L.length ≤ 1000) (h1 : L[one]? = some d1) (hs1 : d1.size ≤ 1000000000) (hco : co ≤ 10) :
    Calls Try.prog 99 #[.pointer (some ⟨bp, 2, none⟩), .int .i64 (one : Int), .agg #[.int .i64 (lo : Int), .int .i64 (co : Int), .bool en]] w (AddPost bp s t L ⟨4, d1.size * co, fun _ => false, lo, co, en, one, 0⟩ w) := by
  have hbp := h.lt
  obtain ⟨W, hW⟩ : ∃ W, W = w.alloc (.cells #[.int .i64 (lo : Int), .int .i64 (co : Int), .bool en] 90) := ⟨_, rfl⟩
  have BW : Below w.heap.size w W := by rw [hW]; exact (Below.refl _ _).alloc (Nat.le_refl _) _
  have b0 : W.heap[w.heap.size]? = some (.cells #[.int .i64 (lo : Int), .int .i64 (co : Int), .bool en] 90 (0, 0)) := by rw [hW]; exact heap_at_new rfl
  obtain ⟨c0, c1, c2, _, _, _⟩ := cell_three' b0
  have h' := h.below BW
  obtain ⟨g, cap, rfl, hc1⟩ := h'.nd h1
  have x1 := hc1 1 (by omega)
  obtain ⟨z1, Z1⟩ : ∃ z, Hid (d1.size = z) := ⟨_, rfl⟩
  simp [nagg] at x1
  rw [Z1.out] at x1 hs1 ⊢
  have hl1 : one < L.length := (List.getElem?_eq_some_iff.1 h1).1
  obtain ⟨_, _, x3, _, _, _, _, _⟩ := h'.par.cells
  have HC := fun w => tnode_ok bp s t (.slice (some ⟨g, 0, none⟩) L.length cap) L ⟨4, z1 * co, fun _ => false, lo, co, en, one, 0⟩ w
  unfold nagg at HC
  simp only [show ((0 : Nat) : Int) = 0 from rfl, show ((4 : Nat) : Int) = 4 from rfl] at HC
  have HP : Hid (ParM W bp s t (.slice (some ⟨g, 0, none⟩) L.length cap) L) := h'
  have hcast : ((z1 * co : Nat) : Int) = (z1 : Int) * (co : Int) := by simp
  have hwr := wrap_mul_small (a := (z1 : Int)) (b := (co : Int)) (by omega) (by omega) (by omega) (by omega)
  rw [hcast] at HC
  clear hcast hc1 h h' h1 b0
  have hWs := BW.size
  go_enter Try.func99, Try.ntmps99
  go_upto_region 1 with fail
  rw [← hW]
  clear hW
  go_wp2_with fail
  go_quiet (fail)
  have HC2 := HC (W.drewN nq) (HP.out.below (below_drewN (Below.refl W.heap.size W) nq)) hl
  clear HC
  go_wp2_with fail
  refine HC2.mono ?_
  rintro e w1 ⟨rfl, vn', hp, hb⟩
  go_wp2_with fail
  go_ret
  exact ⟨rfl, vn', hp, (BW.mono (by omega)).trans (((below_drewN (Below.refl W.heap.size W) nq).mono (by omega)).trans hb)⟩
end Go.Proofs.Ytpngikmcjkjdaab
