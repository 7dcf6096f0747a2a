import Derived.Test.YtpngikmcjkjdaaaGreatDoorRowTo
namespace Go.Proofs.YtpngikmcjkjdaaaGreatDoor
open Go.RowKit
set_option linter.unusedVariables false

/-- A row of a list of rows: nil, if it is empty. -/
def rowv (rb rl rc : Nat → Nat) (i : Nat) : Value := if rl i = 0 then .slice none 0 0 else .slice (some ⟨rb i, 0, none⟩) (rl i) (rc i)
def lstv (b n c : Nat) : Value := if n = 0 then .slice none 0 0 else .slice (some ⟨b, 0, none⟩) n c
theorem rowv_congr {rb rl rc rb' rc' : Nat → Nat} {i : Nat} (h : rb i = rb' i ∧ rc i = rc' i) : rowv rb rl rc i = rowv rb' rl rc' i := by unfold rowv; rw [h.1, h.2]
theorem rowv_one (rb rl rc : Nat → Nat) (i : Nat) : (rowv rb rl rc i).oneCell' = true := by unfold rowv; split <;> rfl

/-- A copy of a table's lists, from block N on. -/
structure CopyAt (N : Nat) (w : World) (ga gn : Nat) (rb rc : Nat → Nat) (na nn : Nat) (rl : Nat → Nat) (A : Nat → Bool) (X : Nat → Nat → Int) : Prop where
  acc : 0 < na → N ≤ ga ∧ RowTo w ga 4 na (fun i => .bool (A i))
  nxt : 0 < nn → N ≤ gn ∧ RowTo w gn 24 nn (rowv rb rl rc)
  row : ∀ j, j < nn → 0 < rl j → N ≤ rb j ∧ RowTo w (rb j) 3 (rl j) (fun c => .int .i64 (X j c))
  dis : ∀ i j, i < j → j < nn → 0 < rl i → 0 < rl j → rb i ≠ rb j

structure CopyMem (W : World) (B : Nat) (w : World) (va vn : Value) (i ga na : Nat) (rb rl rc : Nat → Nat) (A : Nat → Bool) (X : Nat → Nat → Int) : Prop where
  blw : Below (B + 1 + 1) W w
  blk : w.heap[B + 1 + 1]? = some (.cells #[va, vn] 41 (0, 0))
  acc : 0 < na → B + 1 + 1 + 1 ≤ ga ∧ RowTo w ga 4 na (fun i => .bool (A i))
  own : w.ownsRow (B + 1 + 1 + 1) 24 1 vn i ((List.range i).map (rowv rb rl rc))
  row : ∀ j, j < i → 0 < rl j → B + 1 + 1 + 1 ≤ rb j ∧ RowTo w (rb j) 3 (rl j) (fun c => .int .i64 (X j c))
  dis : ∀ j k, j < k → k < i → 0 < rl j → 0 < rl k → rb j ≠ rb k
  nil0 : i = 0 → vn = .slice none 0 0
section
variable {W : World} {B : Nat} {w w2 : World} {va vn : Value} {i ga na : Nat} {rb rl rc : Nat → Nat} {A : Nat → Bool} {X : Nat → Nat → Int}
theorem CopyMem.below (h : CopyMem W B w va vn i ga na rb rl rc A X) (hb : Below w.heap.size w w2) : CopyMem W B w2 va vn i ga na rb rl rc A X where
  blw := h.blw.trans (hb.mono (by have := heap_lt h.blk; omega))
  blk := by rw [hb.block _ (heap_lt h.blk)]; exact h.blk
  acc hn := ⟨(h.acc hn).1, (h.acc hn).2.below hb⟩
  own := ownsRow_below h.own hb
  row j hj hl := ⟨(h.row j hj hl).1, (h.row j hj hl).2.below hb⟩
  dis := h.dis
  nil0 := h.nil0
/-- One row more. -/
theorem CopyMem.app (h : CopyMem W B w va vn i ga na rb rl rc A X) (b c : Nat) (hrow : 0 < rl i → B + 1 + 1 + 1 ≤ b ∧ RowTo w b 3 (rl i) (fun c => .int .i64 (X i c))) (hne : ∀ j, j < i → 0 < rl j → rb j ≠ b)
    {g cap : Nat} (hown : w2.ownsRow (B + 1 + 1 + 1) 24 1 (.slice (some ⟨g, 0, none⟩) (i + 1) cap) (i + 1) ((List.range i).map (rowv rb rl rc) ++ [if rl i = 0 then .slice none 0 0 else .slice (some ⟨b, 0, none⟩) (rl i) c]))
    (hg : w.grownBy w2 vn.ownBlock) :
    w2.heap[B + 1 + 1]? = some (.cells #[va, vn] 41 (0, 0)) ∧
    CopyMem W B (w2.setCell ⟨B + 1 + 1, 1, none⟩ (.slice (some ⟨g, 0, none⟩) (i + 1) cap)) va (.slice (some ⟨g, 0, none⟩) (i + 1) cap) (i + 1) ga na (fun j => if j = i then b else rb j) rl (fun j => if j = i then c else rc j) A X := by
  have hs := heap_lt h.blk
  have hlt := fun x e => h.own.lt x e
  have hblk : w2.heap[B + 1 + 1]? = some (.cells #[va, vn] 41 (0, 0)) := by
    rw [hg.block _ hs (fun e => by have := (hlt _ e.symm).1; omega)]; exact h.blk
  refine ⟨hblk, ?_⟩
  have hl : (List.range i).map (rowv rb rl rc) ++ [if rl i = 0 then .slice none 0 0 else .slice (some ⟨b, 0, none⟩) (rl i) c] = (List.range (i + 1)).map (rowv (fun j => if j = i then b else rb j) rl (fun j => if j = i then c else rc j)) := by
    rw [List.range_succ, List.map_append]
    congr 1
    · apply List.map_congr_left
      intro j hj
      have : j ≠ i := by have : j < i := by simpa using hj
                         omega
      apply rowv_congr; simp [this]
    · simp [rowv]
  rw [hl] at hown
  refine ⟨(h.blw.grown hg (by omega) (fun x e => by have := (hlt x e).1; omega)).setCell (Nat.le_refl _) _, two_set1 hblk, fun hn => ⟨(h.acc hn).1, ((h.acc hn).2.grown h.own (by decide) hg).setOther (by have := (h.acc hn).1; simp; omega) _⟩,
    ownsRow_setCell_below hown (by simp) _, fun j hj hlj => ?_, fun j k hjk hk hlj hlk => ?_, fun h => absurd h (by omega)⟩
  · by_cases e : j = i
    · subst e
      simp only [if_true]
      exact ⟨(hrow hlj).1, ((hrow hlj).2.grown h.own (by decide) hg).setOther (by have := (hrow hlj).1; simp; omega) _⟩
    · simp only [if_neg e]
      have := h.row j (by omega) hlj
      exact ⟨this.1, (this.2.grown h.own (by decide) hg).setOther (by have := this.1; simp; omega) _⟩
  · by_cases e : k = i
    · subst e
      simp only [if_true, if_neg (show j ≠ k by omega)]
      exact hne j (by omega) hlj
    · simp only [if_neg e, if_neg (show j ≠ i by omega)]
      exact h.dis j k hjk (by omega) hlj hlk
end

theorem Tryz.infoI : (Tryz.prog.info? 24).map (fun i => (i.zero, i.size, i.bytes)) = some (some (.slice none 0 0), 1, 24) := by kernel_rfl

set_option maxRecDepth 20000 in
set_option maxHeartbeats 2000000 in
theorem copied_ok (aa an : Option Addr) (na ca nn cn : Nat) (ra : Nat → Option Addr) (rl rc0 : Nat → Nat) (A : Nat → Bool) (X : Nat → Nat → Int) (w : World) (h : RawAt w ⟨aa, an, na, ca, nn, cn, ra, rl, rc0⟩ A X)
    (hb1 : na ≤ 4398046511104) (hb2 : nn ≤ 4398046511104) (hb3 : ∀ i, i < nn → rl i ≤ 4398046511104) :
    Calls Tryz.prog 26 #[.agg #[.slice aa na ca, .slice an nn cn]] w
      fun e w' => Below w.heap.size w w' ∧ ∃ ga ca' gn cn' rb rc, e = .returned (.agg #[lstv ga na ca', lstv gn nn cn']) ∧ CopyAt w.heap.size w' ga gn rb rc na nn rl A X := by
  obtain ⟨i4, hi4, hz4, hz41, hz42⟩ := info_parts Tryz.info4
  obtain ⟨i0, hi0, hz0, hz01, hz02⟩ := info_parts Tryz.infoI
  obtain ⟨i3, hi3, hz3, hz31, hz32⟩ := info_parts Tryz.info3
  obtain ⟨W, hW⟩ : ∃ W, W = ((w.alloc (.cells #[.slice aa na ca, .slice an nn cn] 41)).alloc (.cells #[.slice none 0 0, .slice none 0 0] 41)).alloc (.cells #[.slice none 0 0, .slice none 0 0] 41) := ⟨_, rfl⟩
  have BW : Below w.heap.size w W := by
    rw [hW]; exact (((Below.refl _ _).alloc (Nat.le_refl _) _).alloc (by simp) _).alloc (by simp; omega) _
  have hWs : w.heap.size + 1 + 1 + 1 ≤ W.heap.size := by rw [hW]; simp
  have b0 : W.heap[w.heap.size]? = some (.cells #[.slice aa na ca, .slice an nn cn] 41 (0, 0)) := by rw [hW]; exact heap_at_old (heap_at_old (heap_at_new (by simp)))
  have b1 : W.heap[w.heap.size + 1]? = some (.cells #[.slice none 0 0, .slice none 0 0] 41 (0, 0)) := by rw [hW]; exact heap_at_old (heap_at_new (by simp))
  have b2 : W.heap[w.heap.size + 1 + 1]? = some (.cells #[.slice none 0 0, .slice none 0 0] 41 (0, 0)) := by rw [hW]; exact heap_at_new (by simp)
  have hT0 := h.below BW
  go_enter Tryz.func26, Tryz.ntmps26
  go_upto_region 2 with fail
  rw [← hW]
  clear hW
  obtain ⟨x0, x1, _, _⟩ := cell_two b0
  obtain ⟨y0, y1, z0, z1⟩ := cell_two b2
  go_cut [] (fun wc => ∃ ga ca', CopyMem W w.heap.size wc (lstv ga na ca') (.slice none 0 0) 0 ga na (fun _ => 0) rl (fun _ => 0) A X)
  case first =>
    by_cases hna : na = 0
    · subst hna
      go_wp2_with (at_builtin; refine wpList_append_zero _ rfl _ _ 38 rfl 4 i4 Tryz.underlying38 hi4 aa ca rfl rfl ?_)
      go_meet
      exact ⟨0, 0, (Below.refl _ _).setCell (p := ⟨w.heap.size + 1 + 1, 0, none⟩) (Nat.le_refl _) _, two_set0 b2, fun h => absurd h (by omega), World.ownsRow_nil _ _ _ _, fun j hj => absurd hj (by omega), fun j k _ hk => absurd hk (by omega), fun _ => rfl⟩
    · obtain ⟨ba, oa, ea, _⟩ := hT0.acc 0 (show 0 < na by omega)
      have ea' : aa = some ⟨ba, oa, none⟩ := ea
      subst ea'
      have hca : ∀ i, i < na → W.cell? ⟨ba, oa + i, none⟩ = some (.bool (A i)) := fun i hi => by
        obtain ⟨b, o, e, hc⟩ := hT0.acc i hi
        injection e with e; injection e with e1 e2; subst e1; subst e2; exact hc
      have HCA : Hid _ := hca
      clear hca hT0
      go_wp2_with (at_builtin; refine wpList_append_copy _ rfl _ _ 38 rfl 4 i4 (.bool false) 1 Tryz.underlying38 hi4 hz4 hz41 hz42 rfl ba oa na ca (fun i => .bool (A i)) rfl rfl HCA.out (fun j => rfl) (by omega) (by unfold maxLen; omega) (by omega) ?_; intro cap w1 hR hgr; have hq : w1.heap[w.heap.size + 1 + 1]? = some (.cells #[.slice none 0 0, .slice none 0 0] 41 (0, 0)) := (by rw [hgr.block _ (by omega) (by simp)]; exact b2); obtain ⟨f0, f1, f2, f3⟩ := cell_two hq; have HRR : Hid (RowTo w1 W.heap.size 4 na (fun i => .bool (A i))) := hR; clear hR)
      go_meet
      refine ⟨W.heap.size, cap, ((below_grown hgr).mono (B' := w.heap.size + 1 + 1) (by omega)).setCell (p := ⟨w.heap.size + 1 + 1, 0, none⟩) (Nat.le_refl _) _, ?_, fun h => ⟨by omega, HRR.out.setOther (by simp; omega) _⟩, World.ownsRow_nil _ _ _ _, fun j hj => absurd hj (by omega), fun j k _ hk => absurd hk (by omega), fun _ => rfl⟩
      rw [two_set0 hq]; unfold lstv; rw [if_neg hna]
  case rest =>
    obtain ⟨ga, ca', hP0⟩ := hcut
    clear x0 x1 y0 y1 z0 z1 b2 hT0
    go_wp2_with fail
    go_loopw [4, 5] (fun i' _ wr => ∃ (i : Nat) (vn : Value) (rb rc : Nat → Nat), i ≤ nn ∧ i' = .int .i64 i ∧ CopyMem W w.heap.size wr (lstv ga na ca') vn i ga na rb rl rc A X)
      (fun i' _ _ => nn - (intOf i').toNat)
    case atStart => exact ⟨0, _, _, _, by omega, rfl, hP0⟩
    case round =>
      obtain ⟨i, vn, rb, rc, hi, rfl, hP⟩ := hrel
      clear hP0
      have hbW := hP.blw
      have hbw : Below w.heap.size w wr := BW.trans (hbW.mono (by omega))
      obtain ⟨x0, x1, _, _⟩ := cell_two ((hbW.block _ (by omega)).trans b0)
      obtain ⟨y0, y1, z0, z1⟩ := cell_two hP.blk
      obtain ⟨al, cl, rfl, hal⟩ := ownsRow_shape hP.own
      have hsz := heap_lt hP.blk
      by_cases hlt : i < nn
      · obtain ⟨bn, on, en, hc⟩ := (h.below hbw).row i (show i < nn from hlt)
        have en' : an = some ⟨bn, on, none⟩ := en
        subst en'
        have hc' : wr.cell? ⟨bn, on + i, none⟩ = some (.slice (ra i) (rl i) (rc0 i)) := hc
        have hcel : ∀ c, c < rl i → ∃ b o, ra i = some ⟨b, o, none⟩ ∧ wr.cell? ⟨b, o + c, none⟩ = some (.int .i64 (X i c)) := fun c hcl => (h.below hbw).cel i c (show i < nn from hlt) (show c < rl i from hcl)
        have hrl := hb3 i hlt
        have HP : Hid _ := hP
        have H0 : Hid _ := h
        clear hP hal h en hc
        by_cases hr0 : rl i = 0
        · obtain ⟨rai, HRA⟩ : ∃ x, Hid (ra i = x) := ⟨_, rfl⟩
          obtain ⟨rci, HRC⟩ : ∃ x, Hid (rc0 i = x) := ⟨_, rfl⟩
          rw [hr0, HRA.out, HRC.out] at hc'
          have HR0 : Hid (rl i = 0) := hr0
          have HPa : Hid _ := HP.out.below ((Below.refl _ _).alloc (Nat.le_refl _) (.cells #[.slice none 0 0] 24))
          have hna := HPa.out.own
          have hbo : w.heap.size + 1 + 1 + 1 ≤ (wr.alloc (.cells #[.slice none 0 0] 24)).heap.size := by simp; omega
          have HG : ∀ (g cap : Nat) (w2 : World), w2.ownsRow (w.heap.size + 1 + 1 + 1) 24 1 (.slice (some ⟨g, 0, none⟩) (i + 1) cap) (i + 1) ((List.range i).map (rowv rb rl rc) ++ [.slice none 0 0]) → (wr.alloc (.cells #[.slice none 0 0] 24)).grownBy w2 (Value.slice al i cl).ownBlock →
              w2.heap[w.heap.size + 1 + 1]? = some (.cells #[lstv ga na ca', .slice al i cl] 41 (0, 0)) ∧ Hid (CopyMem W w.heap.size (w2.setCell ⟨w.heap.size + 1 + 1, 1, none⟩ (.slice (some ⟨g, 0, none⟩) (i + 1) cap)) (lstv ga na ca') (.slice (some ⟨g, 0, none⟩) (i + 1) cap) (i + 1) ga na (fun j => if j = i then 0 else rb j) rl (fun j => if j = i then 0 else rc j) A X) := by
            intro g cap w2 ho hg
            refine HPa.out.app 0 0 (fun hl => absurd hl (by have := HR0.out; omega)) (fun j hj hl e => ?_) (by rw [HR0.out]; exact ho) hg
            have := (HPa.out.row j hj hl).1; omega
          clear hr0 hcel
          go_wp2_with (first | (at_builtin; refine wpList_append_zero _ rfl _ _ 24 rfl 3 i3 Tryz.underlying24 hi3 rai rci rfl rfl ?_) | (at_builtin; refine wpList_append_fresh _ rfl _ _ 39 rfl (w.heap.size + 1 + 1 + 1) 24 i0 (.slice none 0 0) 1 24 Tryz.underlying39 hi0 hz0 hz01 hz02 rfl (by decide) _ i _ rfl hna ⟨wr.heap.size, 0, none⟩ 1 1 [.slice none 0 0] rfl rfl (cell_one_new _ _ _) (by intro u hu; simp at hu; subst hu; rfl) (by decide) (by unfold maxLen; omega) (by omega) hbo ?_; intro g cap w2 hown hgr hfr; obtain ⟨f0, F⟩ := HG g cap w2 hown hgr; obtain ⟨f1, f2, f3, f4⟩ := cell_two f0))
          go_roundw
          case rel => exact ⟨i + 1, _, _, _, by omega, by go_num, F.out⟩
          case measure => simp [intOf]; omega
        · obtain ⟨b, o, era, _⟩ := hcel 0 (by omega)
          have hce : ∀ c, c < rl i → wr.cell? ⟨b, o + c, none⟩ = some (.int .i64 (X i c)) := fun c hcl => by
            obtain ⟨b', o', e', h'⟩ := hcel c hcl
            rw [era] at e'; injection e' with e'; injection e' with e1 e2; subst e1; subst e2; exact h'
          rw [era] at hc'
          obtain ⟨rli, HRL⟩ : ∃ x, Hid (rl i = x) := ⟨_, rfl⟩
          obtain ⟨rci, HRC⟩ : ∃ x, Hid (rc0 i = x) := ⟨_, rfl⟩
          obtain ⟨xi, HXI⟩ : ∃ x, Hid (X i = x) := ⟨_, rfl⟩
          rw [HRL.out, HRC.out] at hc'
          rw [HRL.out, HXI.out] at hce
          rw [HRL.out] at hrl hr0
          have HCE : Hid _ := hce
          clear hcel hce era
          have HG1 : ∀ (cap : Nat) (w1 : World), RowTo w1 wr.heap.size 3 rli (fun c => .int .i64 (xi c)) → wr.grownBy w1 none →
              w1.heap[w.heap.size + 1 + 1]? = some (.cells #[lstv ga na ca', .slice al i cl] 41 (0, 0)) ∧ wr.heap.size < w1.heap.size ∧
              Hid (CopyMem W w.heap.size (w1.alloc (.cells #[.slice (some ⟨wr.heap.size, 0, none⟩) rli cap] 24)) (lstv ga na ca') (.slice al i cl) i ga na rb rl rc A X ∧
                RowTo (w1.alloc (.cells #[.slice (some ⟨wr.heap.size, 0, none⟩) rli cap] 24)) wr.heap.size 3 (rl i) (fun c => .int .i64 (X i c))) := by
            intro cap w1 hR hg
            have hB := below_grown hg
            refine ⟨by rw [hB.block _ hsz]; exact HP.out.blk, hR.lt, (HP.out.below hB).below ((Below.refl _ _).alloc (Nat.le_refl _) _), ?_⟩
            rw [HRL.out, HXI.out]; exact hR.alloc _
          have HG2 : ∀ (cap : Nat) (w1 : World), Hid (CopyMem W w.heap.size (w1.alloc (.cells #[.slice (some ⟨wr.heap.size, 0, none⟩) rli cap] 24)) (lstv ga na ca') (.slice al i cl) i ga na rb rl rc A X ∧
                RowTo (w1.alloc (.cells #[.slice (some ⟨wr.heap.size, 0, none⟩) rli cap] 24)) wr.heap.size 3 (rl i) (fun c => .int .i64 (X i c))) → ∀ (g cap2 : Nat) (w2 : World), w2.ownsRow (w.heap.size + 1 + 1 + 1) 24 1 (.slice (some ⟨g, 0, none⟩) (i + 1) cap2) (i + 1) ((List.range i).map (rowv rb rl rc) ++ [.slice (some ⟨wr.heap.size, 0, none⟩) rli cap]) → (w1.alloc (.cells #[.slice (some ⟨wr.heap.size, 0, none⟩) rli cap] 24)).grownBy w2 (Value.slice al i cl).ownBlock →
              w2.heap[w.heap.size + 1 + 1]? = some (.cells #[lstv ga na ca', .slice al i cl] 41 (0, 0)) ∧ Hid (CopyMem W w.heap.size (w2.setCell ⟨w.heap.size + 1 + 1, 1, none⟩ (.slice (some ⟨g, 0, none⟩) (i + 1) cap2)) (lstv ga na ca') (.slice (some ⟨g, 0, none⟩) (i + 1) cap2) (i + 1) ga na (fun j => if j = i then wr.heap.size else rb j) rl (fun j => if j = i then cap else rc j) A X) := by
            intro cap w1 hh g cap2 w2 ho hg
            refine hh.out.1.app wr.heap.size cap (fun hl => ⟨by omega, hh.out.2⟩) (fun j hj hl e => ?_) (by rw [if_neg (by rw [HRL.out]; exact hr0), HRL.out]; exact ho) hg
            have := (HP.out.row j hj hl).2.lt; omega
          go_wp2_with (first | (at_builtin; refine wpList_append_copy _ rfl _ _ 24 rfl 3 i3 (.int .i64 0) 8 Tryz.underlying24 hi3 hz3 hz31 hz32 rfl b o rli rci (fun c => .int .i64 (xi c)) rfl rfl HCE.out (fun j => rfl) (by omega) (by unfold maxLen; omega) (by omega) ?_; intro cap w1 hR hgr; obtain ⟨e0, e1, E⟩ := HG1 cap w1 hR hgr; obtain ⟨e2, e3, e4, e5⟩ := cell_two e0; have hna := E.out.1.own; clear hR hgr HG1) | (at_builtin; refine wpList_append_fresh _ rfl _ _ 39 rfl (w.heap.size + 1 + 1 + 1) 24 i0 (.slice none 0 0) 1 24 Tryz.underlying39 hi0 hz0 hz01 hz02 rfl (by decide) _ i _ rfl hna ⟨w1.heap.size, 0, none⟩ 1 1 [.slice (some ⟨wr.heap.size, 0, none⟩) rli cap] rfl rfl (cell_one_new _ _ _) (by intro u hu; simp at hu; subst hu; rfl) (by decide) (by unfold maxLen; omega) (by omega) (by simp; omega) ?_; intro g cap2 w2 hown hgr hfr; obtain ⟨f0, F⟩ := HG2 cap w1 E g cap2 w2 hown hgr; obtain ⟨f1, f2, f3, f4⟩ := cell_two f0))
          go_roundw
          case rel => exact ⟨i + 1, _, _, _, by omega, by go_num, F.out⟩
          case measure => simp [intOf]; omega
      · have he : i = nn := by omega
        subst he
        have hq : wr.heap[w.heap.size + 1]? = some (.cells #[.slice none 0 0, .slice none 0 0] 41 (0, 0)) := (hbW.block _ (by omega)).trans b1
        obtain ⟨q0, q1, p0, p1⟩ := cell_two hq
        have HP : Hid _ := hP
        have HAL : Hid _ := hal
        clear hP hal h
        obtain ⟨va1, va2, va3, HVA⟩ : ∃ x y z, Hid (lstv ga na ca' = .slice x y z) := by unfold lstv Hid; split <;> exact ⟨_, _, _, rfl⟩
        rw [HVA.out] at y0
        go_wp2_with fail
        obtain ⟨r1, r2, r3⟩ := res_two (u := .slice va1 va2 va3) (v := .slice al i cl) hq
        refine bodyPost_ret (v := .agg #[.slice va1 va2 va3, .slice al i cl]) (by simp [results, Tryz.results26, go_sem, r1, r2]) rfl ?_
        have hp := HP.out
        refine ⟨(hbw.setCell (p := ⟨w.heap.size + 1, 0, none⟩) (by simp) _).setCell (p := ⟨w.heap.size + 1, 1, none⟩) (by simp) _, ga, ca', ?_⟩
        by_cases h0 : i = 0
        · subst h0
          refine ⟨0, 0, rb, rc, ?_, fun hn => ⟨by have := (hp.acc hn).1; omega, (((hp.acc hn).2.setOther (by have := (hp.acc hn).1; simp; omega) _).setOther (by have := (hp.acc hn).1; simp; omega) _)⟩, fun h => absurd h (by omega), fun j hj => absurd hj (by omega), fun j k _ hk => absurd hk (by omega)⟩
          rw [HVA.out]
          rw [hp.nil0 rfl]; rfl
        · obtain ⟨gl, rfl, _⟩ := HAL.out (by omega)
          refine ⟨gl, cl, rb, rc, ?_, fun hn => ⟨by have := (hp.acc hn).1; omega, (((hp.acc hn).2.setOther (by have := (hp.acc hn).1; simp; omega) _).setOther (by have := (hp.acc hn).1; simp; omega) _)⟩, fun _ => ⟨by have := (hp.own.lt gl rfl).1; omega, ?_⟩, fun j hj hl => ?_, hp.dis⟩
          · rw [HVA.out]; unfold lstv; rw [if_neg h0]
          · have hlo := (hp.own.lt gl rfl).1
            exact (((RowTo.ofOwn hp.own (fun j hj => range_get _ _ j hj)).setOther (by simp; omega) _).setOther (by simp; omega) _)
          · have := hp.row j hj hl
            exact ⟨by omega, ((this.2.setOther (by simp; omega) _).setOther (by simp; omega) _)⟩
end Go.Proofs.YtpngikmcjkjdaaaGreatDoor
