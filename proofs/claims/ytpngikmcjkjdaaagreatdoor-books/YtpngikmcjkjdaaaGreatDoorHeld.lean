import Derived.Test.YtpngikmcjkjdaaaGreatDoorWhole
import Derived.Test.YtpngikmcjkjdaaaGreatDoorLSame
import Derived.Deep.RegionWith
namespace Go.Proofs.YtpngikmcjkjdaaaGreatDoor
open Go.RowKit
set_option linter.unusedVariables false

theorem lstv_eq (b n c : Nat) : lstv b n c = .slice (if n = 0 then none else some ⟨b, 0, none⟩) n (if n = 0 then 0 else c) := by
  unfold lstv; by_cases h : n = 0
  · simp [h]
  · simp [h]
theorem rowv_eq (rb rl rc : Nat → Nat) (i : Nat) : rowv rb rl rc i = .slice (if rl i = 0 then none else some ⟨rb i, 0, none⟩) (rl i) (if rl i = 0 then 0 else rc i) := by
  unfold rowv; by_cases h : rl i = 0
  · simp [h]
  · simp [h]
/-- Lists made of rows are lists that may be a table. -/
theorem raw_of {w : World} {ga gn na ca nn cn : Nat} {rb rl rc : Nat → Nat} {A : Nat → Bool} {X : Nat → Nat → Int} (ao no : Option Addr) (ha : 0 < na → ao = some ⟨ga, 0, none⟩ ∧ RowTo w ga 4 na (fun i => .bool (A i))) (hn : 0 < nn → no = some ⟨gn, 0, none⟩ ∧ RowTo w gn 24 nn (rowv rb rl rc))
    (hr : ∀ j, j < nn → 0 < rl j → RowTo w (rb j) 3 (rl j) (fun c => .int .i64 (X j c))) (b1 : na ≤ 9223372036854775807) (b2 : nn ≤ 9223372036854775807) (b3 : ∀ i, i < nn → rl i ≤ 9223372036854775807) :
    RawAt w ⟨ao, no, na, ca, nn, cn, fun i => if rl i = 0 then none else some ⟨rb i, 0, none⟩, rl, fun i => if rl i = 0 then 0 else rc i⟩ A X where
  la := b1
  ln := b2
  lr := b3
  acc i hi := ⟨ga, 0, (ha (Nat.zero_lt_of_lt hi)).1, by rw [Nat.zero_add]; exact (ha (Nat.zero_lt_of_lt hi)).2.cell hi⟩
  row i hi := ⟨gn, 0, (hn (Nat.zero_lt_of_lt hi)).1, by rw [Nat.zero_add, (hn (Nat.zero_lt_of_lt hi)).2.cell hi, rowv_eq]⟩
  cel i c hi hc := by
    have h0 : 0 < rl i := Nat.zero_lt_of_lt hc
    refine ⟨rb i, 0, ?_, by rw [Nat.zero_add]; exact (hr i hi h0).cell hc⟩
    show (if rl i = 0 then none else some (⟨rb i, 0, none⟩ : Addr)) = _
    rw [if_neg (by omega)]

/-- A table of the caller's, and what it must read as. -/
structure Hd where
  (bh : Nat)
  (t : TL)
  (wa wca wn wcn : Nat)
  (wb wc : Nat → Nat)
  (A : Nat → Bool)
  (X : Nat → Nat → Int)
  (lo hi : Nat)
structure HdAt (w : World) (h : Hd) : Prop where
  blk : w.heap[h.bh]? = some (.cells #[.slice (some ⟨h.t.ba, 0, none⟩) h.t.na h.t.ca, .slice (some ⟨h.t.bn, 0, none⟩) h.t.nn h.t.cn, .slice (some ⟨h.wa, 0, none⟩) h.t.ca h.wca, .slice (some ⟨h.wn, 0, none⟩) h.t.cn h.wcn] 54 (0, 0))
  tl : TLAt w h.t h.A h.X
  wacc : RowTo w h.wa 4 h.t.ca (fun i => .bool (h.A i))
  wnxt : RowTo w h.wn 24 h.t.cn (rowv h.wb h.t.rc h.wc)
  wrow : ∀ j, j < h.t.cn → 0 < h.t.rc j → RowTo w (h.wb j) 3 (h.t.rc j) (fun c => .int .i64 (h.X j c))
  siz : h.hi ≤ w.heap.size
  rh : h.lo ≤ h.bh ∧ h.bh < h.hi
  ra : h.lo ≤ h.t.ba ∧ h.t.ba < h.hi
  rn : h.lo ≤ h.t.bn ∧ h.t.bn < h.hi
  rr : ∀ j, j < h.t.cn → 0 < h.t.rc j → h.lo ≤ h.t.rb j ∧ h.t.rb j < h.hi
  sa : h.lo ≤ h.wa ∧ h.wa < h.hi
  sn : h.lo ≤ h.wn ∧ h.wn < h.hi
  sr : ∀ j, j < h.t.cn → 0 < h.t.rc j → h.lo ≤ h.wb j ∧ h.wb j < h.hi
  daw : h.t.ba ≠ h.wa
  drr : ∀ i j, i < j → j < h.t.cn → 0 < h.t.rc i → 0 < h.t.rc j → h.t.rb i ≠ h.t.rb j
  dww : ∀ i j, i < j → j < h.t.cn → 0 < h.t.rc i → 0 < h.t.rc j → h.wb i ≠ h.wb j
  drw : ∀ i j, i < h.t.cn → j < h.t.cn → 0 < h.t.rc i → 0 < h.t.rc j → h.t.rb i ≠ h.wb j
/-- It stays where its own blocks stay. -/
theorem HdAt.keep {w w' : World} {h : Hd} (a : HdAt w h) (hb : ∀ k, h.lo ≤ k → k < h.hi → w'.heap[k]? = w.heap[k]?) (hs : w.heap.size ≤ w'.heap.size) : HdAt w' h where
  blk := by rw [hb _ a.rh.1 a.rh.2]; exact a.blk
  tl := ⟨a.tl.na, a.tl.ca, a.tl.ca1, a.tl.nn, a.tl.cn, a.tl.cn1, a.tl.rl, a.tl.rc, a.tl.acc.of_block (hb _ a.ra.1 a.ra.2), a.tl.nxt.of_block (hb _ a.rn.1 a.rn.2), fun i hi hc => (a.tl.row i hi hc).of_block (hb _ (a.rr i hi hc).1 (a.rr i hi hc).2)⟩
  wacc := a.wacc.of_block (hb _ a.sa.1 a.sa.2)
  wnxt := a.wnxt.of_block (hb _ a.sn.1 a.sn.2)
  wrow j hj hc := (a.wrow j hj hc).of_block (hb _ (a.sr j hj hc).1 (a.sr j hj hc).2)
  siz := Nat.le_trans a.siz hs
  rh := a.rh
  ra := a.ra
  rn := a.rn
  rr := a.rr
  sa := a.sa
  sn := a.sn
  sr := a.sr
  daw := a.daw
  drr := a.drr
  dww := a.dww
  drw := a.drw
theorem HdAt.below {w w' : World} {h : Hd} (a : HdAt w h) (hb : Below w.heap.size w w') : HdAt w' h := a.keep (fun k _ hk => hb.block k (Nat.lt_of_lt_of_le hk a.siz)) hb.size
theorem cell_four {w : World} {b : Nat} {x y z u : Value} {t : TypeId} (h : w.heap[b]? = some (.cells #[x, y, z, u] t (0, 0))) : w.cell? ⟨b, 0, none⟩ = some x ∧ w.cell? ⟨b, 1, none⟩ = some y ∧ w.cell? ⟨b, 2, none⟩ = some z ∧ w.cell? ⟨b, 3, none⟩ = some u := by
  simp [World.cell?, h]

set_option maxRecDepth 20000 in
set_option maxHeartbeats 2000000 in
theorem hold_ok (t : TL) (A : Nat → Bool) (X : Nat → Nat → Int) (N : Nat) (w : World) (h : TLAt w t A X) (ra : N ≤ t.ba) (rn : N ≤ t.bn) (rr : ∀ j, j < t.cn → 0 < t.rc j → N ≤ t.rb j)
    (drr : ∀ i j, i < j → j < t.cn → 0 < t.rc i → 0 < t.rc j → t.rb i ≠ t.rb j) :
    Calls Tryz.prog 14 #[.agg #[.slice (some ⟨t.ba, 0, none⟩) t.na t.ca, .slice (some ⟨t.bn, 0, none⟩) t.nn t.cn]] w
      fun e w' => Below w.heap.size w w' ∧ ∃ d : Hd, e = .returned (.pointer (some ⟨d.bh, 0, none⟩)) ∧ HdAt w' d ∧ d.t = t ∧ d.A = A ∧ d.X = X ∧ d.lo = N ∧ d.hi = w'.heap.size := by
  have g3 := h.ca1
  have g6 := h.cn1
  have g2 := h.ca
  have g5 := h.cn
  have hN : N < w.heap.size := by have := h.acc.lt; omega
  obtain ⟨W, hW⟩ : ∃ W, W = w.alloc (.cells #[.slice (some ⟨t.ba, 0, none⟩) t.na t.ca, .slice (some ⟨t.bn, 0, none⟩) t.nn t.cn] 41) := ⟨_, rfl⟩
  have BW : Below w.heap.size w W := by rw [hW]; exact (Below.refl _ _).alloc (Nat.le_refl _) _
  have hWs : w.heap.size < W.heap.size := by rw [hW]; simp
  have b0 : W.heap[w.heap.size]? = some (.cells #[.slice (some ⟨t.ba, 0, none⟩) t.na t.ca, .slice (some ⟨t.bn, 0, none⟩) t.nn t.cn] 41 (0, 0)) := by rw [hW]; exact heap_at_new (by simp)
  have hT0 := h.below BW
  go_enter Tryz.func14, Tryz.ntmps14
  go_wp2_with fail
  rw [← hW]
  clear hW
  refine (whole_ok t A X W hT0).mono ?_
  rintro e w1 ⟨hB1, g, cap, rfl, hg, hG⟩
  have hs1 := hB1.size
  have hT1 := hT0.below hB1
  have a0 := (hB1.block _ (by omega)).trans b0
  have BW1 : Below w.heap.size w w1 := BW.trans (hB1.mono (by omega))
  go_upto_region 2 with fail
  obtain ⟨W2, hW2⟩ : ∃ W2, W2 = w1.alloc (.cells #[.slice (some ⟨t.ba, 0, none⟩) t.ca t.ca, .slice (some ⟨g, 0, none⟩) t.cn cap] 41) := ⟨_, rfl⟩
  have hB2 : Below w1.heap.size w1 W2 := by rw [hW2]; exact (Below.refl _ _).alloc (Nat.le_refl _) _
  have hs2 : w1.heap.size < W2.heap.size := by rw [hW2]; simp
  have c0 : W2.heap[w1.heap.size]? = some (.cells #[.slice (some ⟨t.ba, 0, none⟩) t.ca t.ca, .slice (some ⟨g, 0, none⟩) t.cn cap] 41 (0, 0)) := by rw [hW2]; exact heap_at_new rfl
  have c1 := (hB2.block _ (by omega)).trans a0
  have hT2 := hT1.below hB2
  have hR : RawAt W2 ⟨some ⟨t.ba, 0, none⟩, some ⟨g, 0, none⟩, t.ca, t.ca, t.cn, cap, fun i => if t.rc i = 0 then none else some ⟨t.rb i, 0, none⟩, t.rc, fun i => if t.rc i = 0 then 0 else t.rc i⟩ A X :=
    raw_of _ _ (fun _ => ⟨rfl, hT2.acc⟩) (fun _ => ⟨rfl, hG.below hB2⟩) hT2.row (by omega) (by omega) (fun i hi => by have := h.rc i hi; omega)
  have HC := copied_ok _ _ _ _ _ _ _ _ _ A X W2.drew (hR.below ((Below.refl _ _).drew)) (by omega) (by omega) (fun i hi => by have := h.rc i hi; omega)
  have hb12 : Below w.heap.size w W2 := BW1.trans (hB2.mono (by omega))
  rw [← hW2]
  have HH : Hid _ := h
  have HB : Hid (Below w.heap.size w W2) := hb12
  have HRR : Hid _ := rr
  have HDD : Hid _ := drr
  clear hW2 hB1 hB2 hT0 hT1 hG hT2 hR a0 b0 BW BW1 h rr drr hb12
  obtain ⟨x0, x1, _, _⟩ := cell_two c0
  obtain ⟨x2, x3, _, _⟩ := cell_two c1
  go_region_with (go_at_call 26; refine Calls.mono HC ?_; rintro e w3 ⟨hB3', ga, ca', gn, cn', rb, rc, rfl, hC⟩; have hB3 : Below W2.heap.size W2 w3 := ((Below.refl W2.heap.size W2).drew).trans hB3'; clear hB3'; rw [show lstv ga t.ca ca' = .slice (some ⟨ga, 0, none⟩) t.ca ca' from if_neg (by omega), show lstv gn t.cn cn' = .slice (some ⟨gn, 0, none⟩) t.cn cn' from if_neg (by omega)]; obtain ⟨u2, u3, _, _⟩ := cell_two ((hB3.block _ (by omega)).trans c1); have HCC : Hid (CopyAt W2.heap.size w3 ga gn rb rc t.ca t.cn t.rc A X) := hC; have HB3 : Hid (Below W2.heap.size W2 w3) := hB3; have hs3 := hB3.size; clear hC hB3)
  all_goals go_wp2_with fail
  all_goals go_ret
  all_goals
    have hh := HH.out
    have cc := HCC.out
    have hb3 : Below w.heap.size w w3 := HB.out.trans (HB3.out.mono (by omega))
    have hsz := hb3.size
    have hb4 : Below w.heap.size w (w3.alloc (.cells #[.slice (some ⟨t.ba, 0, none⟩) t.na t.ca, .slice (some ⟨t.bn, 0, none⟩) t.nn t.cn, .slice (some ⟨ga, 0, none⟩) t.ca ca', .slice (some ⟨gn, 0, none⟩) t.cn cn'] 54)) := hb3.alloc (by omega) _
    refine ⟨hb4, ⟨w3.heap.size, t, ga, ca', gn, cn', rb, rc, A, X, N, w3.heap.size + 1⟩, rfl, ?_, rfl, rfl, rfl, rfl, by simp⟩
    have l1 := hh.acc.lt
    have l2 := hh.nxt.lt
    have l3 := (cc.acc (by omega)).2.lt
    have l4 := (cc.nxt (by omega)).2.lt
    have l5 := (cc.acc (by omega)).1
    have l6 := (cc.nxt (by omega)).1
    refine ⟨heap_at_new rfl, hh.below hb4, (cc.acc (by omega)).2.alloc _, (cc.nxt (by omega)).2.alloc _, fun j hj hc => (cc.row j hj hc).2.alloc _, by simp, ⟨by simp; omega, by simp⟩, ⟨ra, by simp; omega⟩, ⟨rn, by simp; omega⟩, fun j hj hc => ⟨HRR.out j hj hc, by have := (hh.row j hj hc).lt; simp; omega⟩, ⟨by simp; omega, by simp; omega⟩, ⟨by simp; omega, by simp; omega⟩,
      fun j hj hc => ⟨by have := (cc.row j hj hc).1; simp; omega, by have := (cc.row j hj hc).2.lt; simp; omega⟩, by simp; omega, HDD.out, cc.dis, fun i j hi hj hci hcj => ?_⟩
    have l7 := (hh.row i hi hci).lt
    have l8 := (cc.row j hj hcj).1
    simp; omega
end Go.Proofs.YtpngikmcjkjdaaaGreatDoor
