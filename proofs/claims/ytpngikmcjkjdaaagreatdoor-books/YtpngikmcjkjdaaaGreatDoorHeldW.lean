import Derived.Test.YtpngikmcjkjdaaaGreatDoorHeld
namespace Go.Proofs.YtpngikmcjkjdaaaGreatDoor
open Go.RowKit
set_option linter.unusedVariables false

set_option maxRecDepth 20000 in
set_option maxHeartbeats 2000000 in
theorem still_ok (d : Hd) (w : World) (h : HdAt w d) :
    Calls Tryz.prog 23 #[.pointer (some ⟨d.bh, 0, none⟩)] w fun e w' => e = .returned (.bool true) ∧ Below w.heap.size w w' := by
  have g3 := h.tl.ca1
  have g6 := h.tl.cn1
  have g2 := h.tl.ca
  have g5 := h.tl.cn
  have hlt := heap_lt h.blk
  obtain ⟨x0, x1, x2, x3⟩ := cell_four h.blk
  have HC := whole_ok d.t d.A d.X w h.tl
  go_enter Tryz.func23, Tryz.ntmps23
  go_wp2_with fail
  refine HC.mono ?_
  clear HC
  rintro e w1 ⟨hB1, g, cap, rfl, hg, hG⟩
  have h1 := h.below hB1
  have hs1 := hB1.size
  clear x0 x1 x2 x3
  go_upto_region 2 with fail
  obtain ⟨W2, hW2⟩ : ∃ W2, W2 = w1.alloc (.cells #[.slice (some ⟨d.t.ba, 0, none⟩) d.t.ca d.t.ca, .slice (some ⟨g, 0, none⟩) d.t.cn cap] 41) := ⟨_, rfl⟩
  have hB2 : Below w1.heap.size w1 W2 := by rw [hW2]; exact (Below.refl _ _).alloc (Nat.le_refl _) _
  have c0 : W2.heap[w1.heap.size]? = some (.cells #[.slice (some ⟨d.t.ba, 0, none⟩) d.t.ca d.t.ca, .slice (some ⟨g, 0, none⟩) d.t.cn cap] 41 (0, 0)) := by rw [hW2]; exact heap_at_new rfl
  have h2 := h1.below hB2
  obtain ⟨x0, x1, x2, x3⟩ := cell_four h2.blk
  obtain ⟨y0, y1, _, _⟩ := cell_two c0
  have bd : ∀ i, i < d.t.cn → d.t.rc i ≤ 9223372036854775807 := fun i hi => by have := h.tl.rc i hi; omega
  have hR : RawAt W2 ⟨some ⟨d.t.ba, 0, none⟩, some ⟨g, 0, none⟩, d.t.ca, d.t.ca, d.t.cn, cap, fun i => if d.t.rc i = 0 then none else some ⟨d.t.rb i, 0, none⟩, d.t.rc, fun i => if d.t.rc i = 0 then 0 else d.t.rc i⟩ d.A d.X :=
    raw_of _ _ (fun _ => ⟨rfl, h2.tl.acc⟩) (fun _ => ⟨rfl, hG.below hB2⟩) h2.tl.row (by omega) (by omega) bd
  have hR' : RawAt W2 ⟨some ⟨d.wa, 0, none⟩, some ⟨d.wn, 0, none⟩, d.t.ca, d.wca, d.t.cn, d.wcn, fun i => if d.t.rc i = 0 then none else some ⟨d.wb i, 0, none⟩, d.t.rc, fun i => if d.t.rc i = 0 then 0 else d.wc i⟩ d.A d.X :=
    raw_of _ _ (fun _ => ⟨rfl, h2.wacc⟩) (fun _ => ⟨rfl, h2.wnxt⟩) h2.wrow (by omega) (by omega) bd
  have HC := lsame_ok _ _ _ _ _ _ _ _ _ _ _ _ _ _ _ d.A d.X W2.drew (hR.below ((Below.refl _ _).drew)) (hR'.below ((Below.refl _ _).drew))
  rw [← hW2]
  have HB : Hid (Below w.heap.size w W2) := hB1.trans (hB2.mono (by omega))
  have hs2 := hB2.size
  clear hW2 hB1 hB2 hG hR hR' h h1 c0 bd h2
  go_region_with (go_at_call 58; refine Calls.mono HC ?_; rintro e w3 ⟨rfl, hB3'⟩; have HB3 : Hid (Below W2.heap.size W2 w3) := ((Below.refl W2.heap.size W2).drew).trans hB3'; clear hB3')
  all_goals go_wp2_with fail
  all_goals go_ret
  all_goals exact ⟨rfl, HB.out.trans (HB3.out.mono (by omega))⟩

/-- Which of n things a raw number speaks of. -/
def lpickN (c : Int) (n : Nat) : Nat := if c < 0 then ((-(c + 1)) % n).toNat else (c % n).toNat
theorem lpickN_lt (c : Int) (n : Nat) (h : 1 ≤ n) : lpickN c n < n := by
  unfold lpickN; split
  · have := Int.emod_lt_of_pos (-(c+1)) (b := (n : Int)) (by omega); have := Int.emod_nonneg (-(c+1)) (b := (n : Int)) (by omega); omega
  · have := Int.emod_lt_of_pos c (b := (n : Int)) (by omega); have := Int.emod_nonneg c (b := (n : Int)) (by omega); omega
theorem lneg_tmod (c n : Int) (h : c < 0) : -((c + 1).tmod n) = (-(c + 1)) % n := by
  rw [← Int.neg_tmod, Int.tmod_eq_emod_of_nonneg (by omega)]
set_option maxRecDepth 20000 in
set_option maxHeartbeats 400000 in
theorem lpick_ok (c : Int) (n : Int) (w : World) (h1 : 1 ≤ n) (h2 : n ≤ 4398046511104) (hc1 : -9223372036854775808 ≤ c) (hc2 : c ≤ 9223372036854775807) :
    Calls Tryz.prog 16 #[.int .i64 c, .int .i64 n] w fun e w' => e = .returned (.int .i64 (lpickN c n.toNat)) ∧ w' = w := by
  have hn : ((n.toNat : Nat) : Int) = n := by omega
  by_cases h : c < 0
  · have he : ((lpickN c n.toNat : Nat) : Int) = (-(c + 1)) % n := by
      unfold lpickN; rw [if_pos h, hn]; have := Int.emod_nonneg (-(c+1)) (b := n) (by omega); omega
    rw [he]
    clear he hn
    go_enter Tryz.func16, Tryz.ntmps16
    go_wp2
    go_ret
    exact ⟨ret_int (lneg_tmod c n h), rfl⟩
  · have he : ((lpickN c n.toNat : Nat) : Int) = c % n := by
      unfold lpickN; rw [if_neg h, hn]; have := Int.emod_nonneg c (b := n) (by omega); omega
    rw [he]
    clear he hn
    go_enter Tryz.func16, Tryz.ntmps16
    go_wp2
    go_ret
    exact ⟨rfl, rfl⟩

theorem heap_ne {w : World} {b b' t t' n : Nat} {c : Array Value} {f : Nat → Value} (h : w.heap[b]? = some (.cells c t (0, 0))) (h' : RowTo w b' t' n f) (ht : t ≠ t') : b ≠ b' := by
  obtain ⟨c', hb', _, _⟩ := h'
  intro e
  subst e
  rw [h] at hb'
  simp only [Option.some.injEq, Obj.cells.injEq] at hb'
  exact ht hb'.2.1

/-- The owner writes into a row, and into what it must read as. -/
theorem HdAt.put {w : World} {d : Hd} (a : HdAt w d) {i j : Nat} (hi : i < d.t.cn) (hc : 0 < d.t.rc i) (c : Int) :
    HdAt ((w.setCell ⟨d.t.rb i, j, none⟩ (.int .i64 c)).setCell ⟨d.wb i, j, none⟩ (.int .i64 c)) { d with X := fun x y => if x = i then (if y = j then c else d.X i y) else d.X x y } := by
  have r1 := a.tl.row i hi hc
  have r2 := a.wrow i hi hc
  have hrw := a.drw i i hi hi hc hc
  have e1 := heap_ne a.blk r1 (by decide)
  have e2 := heap_ne a.blk r2 (by decide)
  refine ⟨heap_set_other (heap_set_other a.blk e1) e2, ⟨a.tl.na, a.tl.ca, a.tl.ca1, a.tl.nn, a.tl.cn, a.tl.cn1, a.tl.rl, a.tl.rc, ?_, ?_, fun x hx hxc => ?_⟩, ?_, ?_, fun x hx hxc => ?_, by have := a.siz; simpa using this, a.rh, a.ra, a.rn, a.rr, a.sa, a.sn, a.sr, a.daw, a.drr, a.dww, a.drw⟩
  · exact (a.tl.acc.setOther (a.tl.acc.ne r1 (by decide)) _).setOther (a.tl.acc.ne r2 (by decide)) _
  · exact (a.tl.nxt.setOther (a.tl.nxt.ne r1 (by decide)) _).setOther (a.tl.nxt.ne r2 (by decide)) _
  · by_cases e : x = i
    · subst e
      refine ((r1.set j _).setOther hrw _).congr (fun y _ => ?_)
      simp only [if_true]; by_cases e : y = j <;> simp [e]
    · simp only [if_neg e]
      refine ((a.tl.row x hx hxc).setOther ?_ _).setOther (a.drw x i hx hi hxc hc) _
      rcases Nat.lt_or_gt_of_ne e with h | h
      · exact a.drr x i h hi hxc hc
      · exact fun e' => a.drr i x h hx hc hxc e'.symm
  · exact (a.wacc.setOther (a.wacc.ne r1 (by decide)) _).setOther (a.wacc.ne r2 (by decide)) _
  · exact (a.wnxt.setOther (a.wnxt.ne r1 (by decide)) _).setOther (a.wnxt.ne r2 (by decide)) _
  · by_cases e : x = i
    · subst e
      refine ((r2.setOther (fun e' => hrw e'.symm) _).set j _).congr (fun y _ => ?_)
      simp only [if_true]; by_cases e : y = j <;> simp [e]
    · simp only [if_neg e]
      refine ((a.wrow x hx hxc).setOther (fun e' => a.drw i x hi hx hc hxc e'.symm) _).setOther ?_ _
      rcases Nat.lt_or_gt_of_ne e with h | h
      · exact a.dww x i h hi hxc hc
      · exact fun e' => a.dww i x h hx hc hxc e'.symm
theorem HdAt.flip {w : World} {d : Hd} (a : HdAt w d) {i : Nat} (v : Bool) :
    HdAt ((w.setCell ⟨d.t.ba, i, none⟩ (.bool v)).setCell ⟨d.wa, i, none⟩ (.bool v)) { d with A := fun x => if x = i then v else d.A x } := by
  have r1 := a.tl.acc
  have r2 := a.wacc
  have hrw := a.daw
  have e1 := heap_ne a.blk r1 (by decide)
  have e2 := heap_ne a.blk r2 (by decide)
  refine ⟨heap_set_other (heap_set_other a.blk e1) e2, ⟨a.tl.na, a.tl.ca, a.tl.ca1, a.tl.nn, a.tl.cn, a.tl.cn1, a.tl.rl, a.tl.rc, ?_, ?_, fun x hx hxc => ?_⟩, ?_, ?_, fun x hx hxc => ?_, by have := a.siz; simpa using this, a.rh, a.ra, a.rn, a.rr, a.sa, a.sn, a.sr, a.daw, a.drr, a.dww, a.drw⟩
  · refine ((r1.set i _).setOther hrw _).congr (fun y _ => ?_)
    by_cases e : y = i <;> simp [e]
  · exact (a.tl.nxt.setOther (a.tl.nxt.ne r1 (by decide)) _).setOther (a.tl.nxt.ne r2 (by decide)) _
  · exact ((a.tl.row x hx hxc).setOther ((a.tl.row x hx hxc).ne r1 (by decide)) _).setOther ((a.tl.row x hx hxc).ne r2 (by decide)) _
  · refine ((r2.setOther (fun e' => hrw e'.symm) _).set i _).congr (fun y _ => ?_)
    by_cases e : y = i <;> simp [e]
  · exact (a.wnxt.setOther (a.wnxt.ne r1 (by decide)) _).setOther (a.wnxt.ne r2 (by decide)) _
  · exact ((a.wrow x hx hxc).setOther ((a.wrow x hx hxc).ne r1 (by decide)) _).setOther ((a.wrow x hx hxc).ne r2 (by decide)) _
end Go.Proofs.YtpngikmcjkjdaaaGreatDoor
