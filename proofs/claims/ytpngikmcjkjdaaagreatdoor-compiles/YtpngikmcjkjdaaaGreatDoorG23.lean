import Derived.BigQuiet
import Derived.Deep.QuietTactic
import Derived.Deep.RegionWith
import Derived.Test.YtpngikmcjkjdaaaGreatDoorG22
set_option linter.unusedVariables false
set_option linter.unusedSimpArgs false
namespace Go.Proofs.YtpngikmcjkjdaaaGreatDoor
open Go.RowKit
set_option linter.unusedVariables false
def rowv (rb rl rc : Nat → Nat) (i : Nat) : Value := if rl i = 0 then .slice none 0 0 else .slice (some ⟨rb i, 0, none⟩) (rl i) (rc i)
def lstv (b n c : Nat) : Value := if n = 0 then .slice none 0 0 else .slice (some ⟨b, 0, none⟩) n c
theorem rowv_congr {rb rl rc rb' rc' : Nat → Nat} {i : Nat} (h : rb i = rb' i ∧ rc i = rc' i) : rowv rb rl rc i = rowv rb' rl rc' i := by unfold rowv; rw [h.1, h.2]
structure CopyAt (N : Nat) (w : World) (ga gn : Nat) (rb rc : Nat → Nat) (na nn : Nat) (rl : Nat → Nat) (A : Nat → Bool) (X : Nat → Nat → Int) : Prop where
  acc : 0 < na → N ≤ ga ∧ RowTo w ga 4 na (fun i => .bool (A i))
  nxt : 0 < nn → N ≤ gn ∧ RowTo w gn 24 nn (rowv rb rl rc)
  row : ∀ j, j < nn → 0 < rl j → N ≤ rb j ∧ RowTo w (rb j) 3 (rl j) (fun c => .int .i64 (X j c))
  dis : ∀ i j, i < j → j < nn → 0 < rl i → 0 < rl j → rb i ≠ rb j
structure CopyMem (W : World) (B : Nat) (w : World) (va vn : Value) (i ga na : Nat) (rb rl rc : Nat → Nat) (A : Nat → Bool) (X : Nat → Nat → Int) : Prop where
  blw : Below (B + 1 + 1) W w
  blk : w.heap[B + 1 + 1]? = some (.cells #[va, vn] 41 (0, 0))
  acc : 0 < na → B + 1 + 1 + 1 ≤ ga ∧ RowTo w ga 4 na (fun i => .bool (A i))
  own : w.ownsRow (B + 1 + 1 + 1) 24 1 vn i ((List.range i).map (rowv rb rl rc))
  row : ∀ j, j < i → 0 < rl j → B + 1 + 1 + 1 ≤ rb j ∧ RowTo w (rb j) 3 (rl j) (fun c => .int .i64 (X j c))
  dis : ∀ j k, j < k → k < i → 0 < rl j → 0 < rl k → rb j ≠ rb k
  nil0 : i = 0 → vn = .slice none 0 0
section
variable {W : World} {B : Nat} {w w2 : World} {va vn : Value} {i ga na : Nat} {rb rl rc : Nat → Nat} {A : Nat → Bool} {X : Nat → Nat → Int}
theorem CopyMem.below (h : CopyMem W B w va vn i ga na rb rl rc A X) (hb : Below w.heap.size w w2) : CopyMem W B w2 va vn i ga na rb rl rc A X where
  blw := h.blw.trans (hb.mono (by have := heap_lt h.blk; omega))
  blk := by rw [hb.block _ (heap_lt h.blk)]; exact h.blk
  acc hn := ⟨(h.acc hn).1, (h.acc hn).2.below hb⟩
  own := ownsRow_below h.own hb
  row j hj hl := ⟨(h.row j hj hl).1, (h.row j hj hl).2.below hb⟩
  dis := h.dis
  nil0 := h.nil0
theorem CopyMem.app (h : CopyMem W B w va vn i ga na rb rl rc A X) (b c : Nat) (hrow : 0 < rl i → B + 1 + 1 + 1 ≤ b ∧ RowTo w b 3 (rl i) (fun c => .int .i64 (X i c))) (hne : ∀ j, j < i → 0 < rl j → rb j ≠ b)
    {g cap : Nat} (hown : w2.ownsRow (B + 1 + 1 + 1) 24 1 (.slice (some ⟨g, 0, none⟩) (i + 1) cap) (i + 1) ((List.range i).map (rowv rb rl rc) ++ [if rl i = 0 then .slice none 0 0 else .slice (some ⟨b, 0, none⟩) (rl i) c]))
    (hg : w.grownBy w2 vn.ownBlock) :
    w2.heap[B + 1 + 1]? = some (.cells #[va, vn] 41 (0, 0)) ∧
    CopyMem W B (w2.setCell ⟨B + 1 + 1, 1, none⟩ (.slice (some ⟨g, 0, none⟩) (i + 1) cap)) va (.slice (some ⟨g, 0, none⟩) (i + 1) cap) (i + 1) ga na (fun j => if j = i then b else rb j) rl (fun j => if j = i then c else rc j) A X := by
  have hs := heap_lt h.blk
  have hlt := fun x e => h.own.lt x e
  have hblk : w2.heap[B + 1 + 1]? = some (.cells #[va, vn] 41 (0, 0)) := by
    rw [hg.block _ hs (fun e => by have := (hlt _ e.symm).1; omega)]; exact h.blk
  refine ⟨hblk, ?_⟩
  have hl : (List.range i).map (rowv rb rl rc) ++ [if rl i = 0 then .slice none 0 0 else .slice (some ⟨b, 0, none⟩) (rl i) c] = (List.range (i + 1)).map (rowv (fun j => if j = i then b else rb j) rl (fun j => if j = i then c else rc j)) := by
    rw [List.range_succ, List.map_append]
    congr 1
    · apply List.map_congr_left
      intro j hj
      have : j ≠ i := by have : j < i := by simpa using hj
                         omega
      apply rowv_congr; simp [this]
    · simp [rowv]
  rw [hl] at hown
  refine ⟨(h.blw.grown hg (by omega) (fun x e => by have := (hlt x e).1; omega)).setCell (Nat.le_refl _) _, two_set1 hblk, fun hn => ⟨(h.acc hn).1, ((h.acc hn).2.grown h.own (by decide) hg).setOther (by have := (h.acc hn).1; simp; omega) _⟩,
    ownsRow_setCell_below hown (by simp) _, fun j hj hlj => ?_, fun j k hjk hk hlj hlk => ?_, fun h => absurd h (by omega)⟩
  · by_cases e : j = i
    · subst e
      simp only [if_true]
      exact ⟨(hrow hlj).1, ((hrow hlj).2.grown h.own (by decide) hg).setOther (by have := (hrow hlj).1; simp; omega) _⟩
    · simp only [if_neg e]
      have := h.row j (by omega) hlj
      exact ⟨this.1, (this.2.grown h.own (by decide) hg).setOther (by have := this.1; simp; omega) _⟩
  · by_cases e : k = i
    · subst e
      simp only [if_true, if_neg (show j ≠ k by omega)]
      exact hne j (by omega) hlj
    · simp only [if_neg e, if_neg (show j ≠ i by omega)]
      exact h.dis j k hjk (by omega) hlj hlk
end
theorem Tryz.infoI : (Tryz.prog.info? 24).map (fun i => (i.zero, i.size, i.bytes)) = some (some (.slice none 0 0), 1, 24) := by kernel_rfl
set_option maxRecDepth 20000 in
set_option maxHeartbeats 2000000 in
theorem copied_ok (aa an : Option Addr) (na ca nn cn : Nat) (ra : Nat → Option Addr) (rl rc0 : Nat → Nat) (A : Nat → Bool) (X : Nat → Nat → Int) (w : World) (h : RawAt w ⟨aa, an, na, ca, nn, cn, ra, rl, rc0⟩ A X)
    (hb1 : na ≤ 4398046511104) (hb2 : nn ≤ 4398046511104) (hb3 : ∀ i, i < nn → rl i ≤ 4398046511104) :
    Calls Tryz.prog 26 #[.agg #[.slice aa na ca, .slice an nn cn]] w
      fun e w' => Below w.heap.size w w' ∧ ∃ ga ca' gn cn' rb rc, e = .returned (.agg #[lstv ga na ca', lstv gn nn cn']) ∧ CopyAt w.heap.size w' ga gn rb rc na nn rl A X := by
  obtain ⟨i4, hi4, hz4, hz41, hz42⟩ := info_parts Tryz.info4
  obtain ⟨i0, hi0, hz0, hz01, hz02⟩ := info_parts Tryz.infoI
  obtain ⟨i3, hi3, hz3, hz31, hz32⟩ := info_parts Tryz.info3
  obtain ⟨W, hW⟩ : ∃ W, W = ((w.alloc (.cells #[.slice aa na ca, .slice an nn cn] 41)).alloc (.cells #[.slice none 0 0, .slice none 0 0] 41)).alloc (.cells #[.slice none 0 0, .slice none 0 0] 41) := ⟨_, rfl⟩
  have BW : Below w.heap.size w W := by
    rw [hW]; exact (((Below.refl _ _).alloc (Nat.le_refl _) _).alloc (by simp) _).alloc (by simp; omega) _
  have hWs : w.heap.size + 1 + 1 + 1 ≤ W.heap.size := by rw [hW]; simp
  have b0 : W.heap[w.heap.size]? = some (.cells #[.slice aa na ca, .slice an nn cn] 41 (0, 0)) := by rw [hW]; exact heap_at_old (heap_at_old (heap_at_new (by simp)))
  have b1 : W.heap[w.heap.size + 1]? = some (.cells #[.slice none 0 0, .slice none 0 0] 41 (0, 0)) := by rw [hW]; exact heap_at_old (heap_at_new (by simp))
  have b2 : W.heap[w.heap.size + 1 + 1]? = some (.cells #[.slice none 0 0, .slice none 0 0] 41 (0, 0)) := by rw [hW]; exact heap_at_new (by simp)
  have hT0 := h.below BW
  go_enter Tryz.func26, Tryz.ntmps26
  go_upto_region 2 with fail
  rw [← hW]
  clear hW
  obtain ⟨x0, x1, _, _⟩ := cell_two b0
  obtain ⟨y0, y1, z0, z1⟩ := cell_two b2
  go_cut [] (fun wc => ∃ ga ca', CopyMem W w.heap.size wc (lstv ga na ca') (.slice none 0 0) 0 ga na (fun _ => 0) rl (fun _ => 0) A X)
  case first =>
    by_cases hna : na = 0
    · subst hna
      go_wp2_with (at_builtin; refine wpList_append_zero _ rfl _ _ 38 rfl 4 i4 Tryz.underlying38 hi4 aa ca rfl rfl ?_)
      go_meet
      exact ⟨0, 0, (Below.refl _ _).setCell (p := ⟨w.heap.size + 1 + 1, 0, none⟩) (Nat.le_refl _) _, two_set0 b2, fun h => absurd h (by omega), World.ownsRow_nil _ _ _ _, fun j hj => absurd hj (by omega), fun j k _ hk => absurd hk (by omega), fun _ => rfl⟩
    · obtain ⟨ba, oa, ea, _⟩ := hT0.acc 0 (show 0 < na by omega)
      have ea' : aa = some ⟨ba, oa, none⟩ := ea
      subst ea'
      have hca : ∀ i, i < na → W.cell? ⟨ba, oa + i, none⟩ = some (.bool (A i)) := fun i hi => by
        obtain ⟨b, o, e, hc⟩ := hT0.acc i hi
        injection e with e; injection e with e1 e2; subst e1; subst e2; exact hc
      have HCA : Hid _ := hca
      clear hca hT0
      go_wp2_with (at_builtin; refine wpList_append_copy _ rfl _ _ 38 rfl 4 i4 (.bool false) 1 Tryz.underlying38 hi4 hz4 hz41 hz42 rfl ba oa na ca (fun i => .bool (A i)) rfl rfl HCA.out (fun j => rfl) (by omega) (by unfold maxLen; omega) (by omega) ?_; intro cap w1 hR hgr; have hq : w1.heap[w.heap.size + 1 + 1]? = some (.cells #[.slice none 0 0, .slice none 0 0] 41 (0, 0)) := (by rw [hgr.block _ (by omega) (by simp)]; exact b2); obtain ⟨f0, f1, f2, f3⟩ := cell_two hq; have HRR : Hid (RowTo w1 W.heap.size 4 na (fun i => .bool (A i))) := hR; clear hR)
      go_meet
      refine ⟨W.heap.size, cap, ((below_grown hgr).mono (B' := w.heap.size + 1 + 1) (by omega)).setCell (p := ⟨w.heap.size + 1 + 1, 0, none⟩) (Nat.le_refl _) _, ?_, fun h => ⟨by omega, HRR.out.setOther (by simp; omega) _⟩, World.ownsRow_nil _ _ _ _, fun j hj => absurd hj (by omega), fun j k _ hk => absurd hk (by omega), fun _ => rfl⟩
      rw [two_set0 hq]; unfold lstv; rw [if_neg hna]
  case rest =>
    obtain ⟨ga, ca', hP0⟩ := hcut
    clear x0 x1 y0 y1 z0 z1 b2 hT0
    go_wp2_with fail
    go_loopw [4, 5] (fun i' _ wr => ∃ (i : Nat) (vn : Value) (rb rc : Nat → Nat), i ≤ nn ∧ i' = .int .i64 i ∧ CopyMem W w.heap.size wr (lstv ga na ca') vn i ga na rb rl rc A X)
      (fun i' _ _ => nn - (intOf i').toNat)
    case atStart => exact ⟨0, _, _, _, by omega, rfl, hP0⟩
    case round =>
      obtain ⟨i, vn, rb, rc, hi, rfl, hP⟩ := hrel
      clear hP0
      have hbW := hP.blw
      have hbw : Below w.heap.size w wr := BW.trans (hbW.mono (by omega))
      obtain ⟨x0, x1, _, _⟩ := cell_two ((hbW.block _ (by omega)).trans b0)
      obtain ⟨y0, y1, z0, z1⟩ := cell_two hP.blk
      obtain ⟨al, cl, rfl, hal⟩ := ownsRow_shape hP.own
      have hsz := heap_lt hP.blk
      by_cases hlt : i < nn
      · obtain ⟨bn, on, en, hc⟩ := (h.below hbw).row i (show i < nn from hlt)
        have en' : an = some ⟨bn, on, none⟩ := en
        subst en'
        have hc' : wr.cell? ⟨bn, on + i, none⟩ = some (.slice (ra i) (rl i) (rc0 i)) := hc
        have hcel : ∀ c, c < rl i → ∃ b o, ra i = some ⟨b, o, none⟩ ∧ wr.cell? ⟨b, o + c, none⟩ = some (.int .i64 (X i c)) := fun c hcl => (h.below hbw).cel i c (show i < nn from hlt) (show c < rl i from hcl)
        have hrl := hb3 i hlt
        have HP : Hid _ := hP
        have H0 : Hid _ := h
        clear hP hal h en hc
        by_cases hr0 : rl i = 0
        · obtain ⟨rai, HRA⟩ : ∃ x, Hid (ra i = x) := ⟨_, rfl⟩
          obtain ⟨rci, HRC⟩ : ∃ x, Hid (rc0 i = x) := ⟨_, rfl⟩
          rw [hr0, HRA.out, HRC.out] at hc'
          have HR0 : Hid (rl i = 0) := hr0
          have HPa : Hid _ := HP.out.below ((Below.refl _ _).alloc (Nat.le_refl _) (.cells #[.slice none 0 0] 24))
          have hna := HPa.out.own
          have hbo : w.heap.size + 1 + 1 + 1 ≤ (wr.alloc (.cells #[.slice none 0 0] 24)).heap.size := by simp; omega
          have HG : ∀ (g cap : Nat) (w2 : World), w2.ownsRow (w.heap.size + 1 + 1 + 1) 24 1 (.slice (some ⟨g, 0, none⟩) (i + 1) cap) (i + 1) ((List.range i).map (rowv rb rl rc) ++ [.slice none 0 0]) → (wr.alloc (.cells #[.slice none 0 0] 24)).grownBy w2 (Value.slice al i cl).ownBlock →
              w2.heap[w.heap.size + 1 + 1]? = some (.cells #[lstv ga na ca', .slice al i cl] 41 (0, 0)) ∧ Hid (CopyMem W w.heap.size (w2.setCell ⟨w.heap.size + 1 + 1, 1, none⟩ (.slice (some ⟨g, 0, none⟩) (i + 1) cap)) (lstv ga na ca') (.slice (some ⟨g, 0, none⟩) (i + 1) cap) (i + 1) ga na (fun j => if j = i then 0 else rb j) rl (fun j => if j = i then 0 else rc j) A X) := by
            intro g cap w2 ho hg
            refine HPa.out.app 0 0 (fun hl => absurd hl (by have := HR0.out; omega)) (fun j hj hl e => ?_) (by rw [HR0.out]; exact ho) hg
            have := (HPa.out.row j hj hl).1; omega
          clear hr0 hcel
          go_wp2_with (first | (at_builtin; refine wpList_append_zero _ rfl _ _ 24 rfl 3 i3 Tryz.underlying24 hi3 rai rci rfl rfl ?_) | (at_builtin; refine wpList_append_fresh _ rfl _ _ 39 rfl (w.heap.size + 1 + 1 + 1) 24 i0 (.slice none 0 0) 1 24 Tryz.underlying39 hi0 hz0 hz01 hz02 rfl (by decide) _ i _ rfl hna ⟨wr.heap.size, 0, none⟩ 1 1 [.slice none 0 0] rfl rfl (cell_one_new _ _ _) (by intro u hu; simp at hu; subst hu; rfl) (by decide) (by unfold maxLen; omega) (by omega) hbo ?_; intro g cap w2 hown hgr hfr; obtain ⟨f0, F⟩ := HG g cap w2 hown hgr; obtain ⟨f1, f2, f3, f4⟩ := cell_two f0))
          go_roundw
          case rel => exact ⟨i + 1, _, _, _, by omega, by go_num, F.out⟩
          case measure => simp [intOf]; omega
        · obtain ⟨b, o, era, _⟩ := hcel 0 (by omega)
          have hce : ∀ c, c < rl i → wr.cell? ⟨b, o + c, none⟩ = some (.int .i64 (X i c)) := fun c hcl => by
            obtain ⟨b', o', e', h'⟩ := hcel c hcl
            rw [era] at e'; injection e' with e'; injection e' with e1 e2; subst e1; subst e2; exact h'
          rw [era] at hc'
          obtain ⟨rli, HRL⟩ : ∃ x, Hid (rl i = x) := ⟨_, rfl⟩
          obtain ⟨rci, HRC⟩ : ∃ x, Hid (rc0 i = x) := ⟨_, rfl⟩
          obtain ⟨xi, HXI⟩ : ∃ x, Hid (X i = x) := ⟨_, rfl⟩
          rw [HRL.out, HRC.out] at hc'
          rw [HRL.out, HXI.out] at hce
          rw [HRL.out] at hrl hr0
          have HCE : Hid _ := hce
          clear hcel hce era
          have HG1 : ∀ (cap : Nat) (w1 : World), RowTo w1 wr.heap.size 3 rli (fun c => .int .i64 (xi c)) → wr.grownBy w1 none →
              w1.heap[w.heap.size + 1 + 1]? = some (.cells #[lstv ga na ca', .slice al i cl] 41 (0, 0)) ∧ wr.heap.size < w1.heap.size ∧
              Hid (CopyMem W w.heap.size (w1.alloc (.cells #[.slice (some ⟨wr.heap.size, 0, none⟩) rli cap] 24)) (lstv ga na ca') (.slice al i cl) i ga na rb rl rc A X ∧
                RowTo (w1.alloc (.cells #[.slice (some ⟨wr.heap.size, 0, none⟩) rli cap] 24)) wr.heap.size 3 (rl i) (fun c => .int .i64 (X i c))) := by
            intro cap w1 hR hg
            have hB := below_grown hg
            refine ⟨by rw [hB.block _ hsz]; exact HP.out.blk, hR.lt, (HP.out.below hB).below ((Below.refl _ _).alloc (Nat.le_refl _) _), ?_⟩
            rw [HRL.out, HXI.out]; exact hR.alloc _
          have HG2 : ∀ (cap : Nat) (w1 : World), Hid (CopyMem W w.heap.size (w1.alloc (.cells #[.slice (some ⟨wr.heap.size, 0, none⟩) rli cap] 24)) (lstv ga na ca') (.slice al i cl) i ga na rb rl rc A X ∧
                RowTo (w1.alloc (.cells #[.slice (some ⟨wr.heap.size, 0, none⟩) rli cap] 24)) wr.heap.size 3 (rl i) (fun c => .int .i64 (X i c))) → ∀ (g cap2 : Nat) (w2 : World), w2.ownsRow (w.heap.size + 1 + 1 + 1) 24 1 (.slice (some ⟨g, 0, none⟩) (i + 1) cap2) (i + 1) ((List.range i).map (rowv rb rl rc) ++ [.slice (some ⟨wr.heap.size, 0, none⟩) rli cap]) → (w1.alloc (.cells #[.slice (some ⟨wr.heap.size, 0, none⟩) rli cap] 24)).grownBy w2 (Value.slice al i cl).ownBlock →
              w2.heap[w.heap.size + 1 + 1]? = some (.cells #[lstv ga na ca', .slice al i cl] 41 (0, 0)) ∧ Hid (CopyMem W w.heap.size (w2.setCell ⟨w.heap.size + 1 + 1, 1, none⟩ (.slice (some ⟨g, 0, none⟩) (i + 1) cap2)) (lstv ga na ca') (.slice (some ⟨g, 0, none⟩) (i + 1) cap2) (i + 1) ga na (fun j => if j = i then wr.heap.size else rb j) rl (fun j => if j = i then cap else rc j) A X) := by
            intro cap w1 hh g cap2 w2 ho hg
            refine hh.out.1.app wr.heap.size cap (fun hl => ⟨by omega, hh.out.2⟩) (fun j hj hl e => ?_) (by rw [if_neg (by rw [HRL.out]; exact hr0), HRL.out]; exact ho) hg
            have := (HP.out.row j hj hl).2.lt; omega
          go_wp2_with (first | (at_builtin; refine wpList_append_copy _ rfl _ _ 24 rfl 3 i3 (.int .i64 0) 8 Tryz.underlying24 hi3 hz3 hz31 hz32 rfl b o rli rci (fun c => .int .i64 (xi c)) rfl rfl HCE.out (fun j => rfl) (by omega) (by unfold maxLen; omega) (by omega) ?_; intro cap w1 hR hgr; obtain ⟨e0, e1, E⟩ := HG1 cap w1 hR hgr; obtain ⟨e2, e3, e4, e5⟩ := cell_two e0; have hna := E.out.1.own; clear hR hgr HG1) | (at_builtin; refine wpList_append_fresh _ rfl _ _ 39 rfl (w.heap.size + 1 + 1 + 1) 24 i0 (.slice none 0 0) 1 24 Tryz.underlying39 hi0 hz0 hz01 hz02 rfl (by decide) _ i _ rfl hna ⟨w1.heap.size, 0, none⟩ 1 1 [.slice (some ⟨wr.heap.size, 0, none⟩) rli cap] rfl rfl (cell_one_new _ _ _) (by intro u hu; simp at hu; subst hu; rfl) (by decide) (by unfold maxLen; omega) (by omega) (by simp; omega) ?_; intro g cap2 w2 hown hgr hfr; obtain ⟨f0, F⟩ := HG2 cap w1 E g cap2 w2 hown hgr; obtain ⟨f1, f2, f3, f4⟩ := cell_two f0))
          go_roundw
          case rel => exact ⟨i + 1, _, _, _, by omega, by go_num, F.out⟩
          case measure => simp [intOf]; omega
      · have he : i = nn := by omega
        subst he
        have hq : wr.heap[w.heap.size + 1]? = some (.cells #[.slice none 0 0, .slice none 0 0] 41 (0, 0)) := (hbW.block _ (by omega)).trans b1
        obtain ⟨q0, q1, p0, p1⟩ := cell_two hq
        have HP : Hid _ := hP
        have HAL : Hid _ := hal
        clear hP hal h
        obtain ⟨va1, va2, va3, HVA⟩ : ∃ x y z, Hid (lstv ga na ca' = .slice x y z) := by unfold lstv Hid; split <;> exact ⟨_, _, _, rfl⟩
        rw [HVA.out] at y0
        go_wp2_with fail
        obtain ⟨r1, r2, r3⟩ := res_two (u := .slice va1 va2 va3) (v := .slice al i cl) hq
        refine bodyPost_ret (v := .agg #[.slice va1 va2 va3, .slice al i cl]) (by simp [results, Tryz.results26, go_sem, r1, r2]) rfl ?_
        have hp := HP.out
        refine ⟨(hbw.setCell (p := ⟨w.heap.size + 1, 0, none⟩) (by simp) _).setCell (p := ⟨w.heap.size + 1, 1, none⟩) (by simp) _, ga, ca', ?_⟩
        by_cases h0 : i = 0
        · subst h0
          refine ⟨0, 0, rb, rc, ?_, fun hn => ⟨by have := (hp.acc hn).1; omega, (((hp.acc hn).2.setOther (by have := (hp.acc hn).1; simp; omega) _).setOther (by have := (hp.acc hn).1; simp; omega) _)⟩, fun h => absurd h (by omega), fun j hj => absurd hj (by omega), fun j k _ hk => absurd hk (by omega)⟩
          rw [HVA.out]
          rw [hp.nil0 rfl]; rfl
        · obtain ⟨gl, rfl, _⟩ := HAL.out (by omega)
          refine ⟨gl, cl, rb, rc, ?_, fun hn => ⟨by have := (hp.acc hn).1; omega, (((hp.acc hn).2.setOther (by have := (hp.acc hn).1; simp; omega) _).setOther (by have := (hp.acc hn).1; simp; omega) _)⟩, fun _ => ⟨by have := (hp.own.lt gl rfl).1; omega, ?_⟩, fun j hj hl => ?_, hp.dis⟩
          · rw [HVA.out]; unfold lstv; rw [if_neg h0]
          · have hlo := (hp.own.lt gl rfl).1
            exact (((RowTo.ofOwn hp.own (fun j hj => range_get _ _ j hj)).setOther (by simp; omega) _).setOther (by simp; omega) _)
          · have := hp.row j hj hl
            exact ⟨by omega, ((this.2.setOther (by simp; omega) _).setOther (by simp; omega) _)⟩
end Go.Proofs.YtpngikmcjkjdaaaGreatDoor
namespace Go.Proofs.YtpngikmcjkjdaaaGreatDoor
open Go.RowKit
set_option linter.unusedVariables false
structure TL where
  (ba na ca bn nn cn : Nat)
  (rb rl rc : Nat → Nat)
def tlv (t : TL) (i : Nat) : Value := if t.rc i = 0 then .slice none 0 0 else .slice (some ⟨t.rb i, 0, none⟩) (t.rl i) (t.rc i)
structure TLAt (w : World) (t : TL) (A : Nat → Bool) (X : Nat → Nat → Int) : Prop where
  na : t.na ≤ t.ca
  ca : t.ca ≤ 4398046511104
  ca1 : 1 ≤ t.ca
  nn : t.nn ≤ t.cn
  cn : t.cn ≤ 4398046511104
  cn1 : 1 ≤ t.cn
  rl : ∀ i, i < t.cn → t.rl i ≤ t.rc i
  rc : ∀ i, i < t.cn → t.rc i ≤ 1000000
  acc : RowTo w t.ba 4 t.ca (fun i => .bool (A i))
  nxt : RowTo w t.bn 24 t.cn (tlv t)
  row : ∀ i, i < t.cn → 0 < t.rc i → RowTo w (t.rb i) 3 (t.rc i) (fun c => .int .i64 (X i c))
theorem TLAt.below {w w' : World} {t : TL} {A : Nat → Bool} {X : Nat → Nat → Int} (h : TLAt w t A X) (hb : Below w.heap.size w w') : TLAt w' t A X :=
  ⟨h.na, h.ca, h.ca1, h.nn, h.cn, h.cn1, h.rl, h.rc, h.acc.below hb, h.nxt.below hb, fun i hi hc => (h.row i hi hc).below hb⟩
structure WholeMem (W : World) (B : Nat) (w : World) (t : TL) (vn : Value) (i : Nat) : Prop where
  blw : Below (B + 1 + 1) W w
  blk : w.heap[B + 1 + 1]? = some (.cells #[.slice (some ⟨t.ba, 0, none⟩) t.ca t.ca, vn] 41 (0, 0))
  own : w.ownsRow (B + 1 + 1 + 1) 24 1 vn i ((List.range i).map (rowv t.rb t.rc t.rc))
theorem WholeMem.below {W : World} {B : Nat} {w w2 : World} {t : TL} {vn : Value} {i : Nat} (h : WholeMem W B w t vn i) (hb : Below w.heap.size w w2) : WholeMem W B w2 t vn i where
  blw := h.blw.trans (hb.mono (by have := heap_lt h.blk; omega))
  blk := by rw [hb.block _ (heap_lt h.blk)]; exact h.blk
  own := ownsRow_below h.own hb
theorem WholeMem.app {W : World} {B : Nat} {w w2 : World} {t : TL} {vn : Value} {i : Nat} (h : WholeMem W B w t vn i) {g cap : Nat} (hown : w2.ownsRow (B + 1 + 1 + 1) 24 1 (.slice (some ⟨g, 0, none⟩) (i + 1) cap) (i + 1) ((List.range i).map (rowv t.rb t.rc t.rc) ++ [rowv t.rb t.rc t.rc i]))
    (hg : w.grownBy w2 vn.ownBlock) :
    w2.heap[B + 1 + 1]? = some (.cells #[.slice (some ⟨t.ba, 0, none⟩) t.ca t.ca, vn] 41 (0, 0)) ∧
    WholeMem W B (w2.setCell ⟨B + 1 + 1, 1, none⟩ (.slice (some ⟨g, 0, none⟩) (i + 1) cap)) t (.slice (some ⟨g, 0, none⟩) (i + 1) cap) (i + 1) := by
  have hs := heap_lt h.blk
  have hlt := fun x e => h.own.lt x e
  have hblk : w2.heap[B + 1 + 1]? = some (.cells #[.slice (some ⟨t.ba, 0, none⟩) t.ca t.ca, vn] 41 (0, 0)) := by
    rw [hg.block _ hs (fun e => by have := (hlt _ e.symm).1; omega)]; exact h.blk
  refine ⟨hblk, (h.blw.grown hg (by omega) (fun x e => by have := (hlt x e).1; omega)).setCell (Nat.le_refl _) _, two_set1 hblk, ?_⟩
  have : (List.range i).map (rowv t.rb t.rc t.rc) ++ [rowv t.rb t.rc t.rc i] = (List.range (i + 1)).map (rowv t.rb t.rc t.rc) := by simp [List.range_succ]
  rw [this] at hown
  exact ownsRow_setCell_below hown (by simp) _
set_option maxRecDepth 20000 in
set_option maxHeartbeats 2000000 in
theorem whole_ok (t : TL) (A : Nat → Bool) (X : Nat → Nat → Int) (w : World) (h : TLAt w t A X) :
    Calls Tryz.prog 25 #[.agg #[.slice (some ⟨t.ba, 0, none⟩) t.na t.ca, .slice (some ⟨t.bn, 0, none⟩) t.nn t.cn]] w
      fun e w' => Below w.heap.size w w' ∧ ∃ g cap, e = .returned (.agg #[.slice (some ⟨t.ba, 0, none⟩) t.ca t.ca, .slice (some ⟨g, 0, none⟩) t.cn cap]) ∧ w.heap.size ≤ g ∧ RowTo w' g 24 t.cn (rowv t.rb t.rc t.rc) := by
  obtain ⟨i0, hi0, hz0, hz01, hz02⟩ := info_parts Tryz.infoI
  have g1 := h.na
  have g2 := h.ca
  have g3 := h.ca1
  have g4 := h.nn
  have g5 := h.cn
  have g6 := h.cn1
  obtain ⟨ba, na, ca, bn, nn, cn, rb, rl, rc⟩ := t
  simp only at g1 g2 g3 g4 g5 g6 ⊢
  obtain ⟨W, hW⟩ : ∃ W, W = ((w.alloc (.cells #[.slice (some ⟨ba, 0, none⟩) na ca, .slice (some ⟨bn, 0, none⟩) nn cn] 41)).alloc (.cells #[.slice none 0 0, .slice none 0 0] 41)).alloc (.cells #[.slice none 0 0, .slice none 0 0] 41) := ⟨_, rfl⟩
  have BW : Below w.heap.size w W := by
    rw [hW]; exact (((Below.refl _ _).alloc (Nat.le_refl _) _).alloc (by simp) _).alloc (by simp; omega) _
  have hWs : w.heap.size + 1 + 1 + 1 ≤ W.heap.size := by rw [hW]; simp
  have b0 : W.heap[w.heap.size]? = some (.cells #[.slice (some ⟨ba, 0, none⟩) na ca, .slice (some ⟨bn, 0, none⟩) nn cn] 41 (0, 0)) := by rw [hW]; exact heap_at_old (heap_at_old (heap_at_new (by simp)))
  have b1 : W.heap[w.heap.size + 1]? = some (.cells #[.slice none 0 0, .slice none 0 0] 41 (0, 0)) := by rw [hW]; exact heap_at_old (heap_at_new (by simp))
  have b2 : W.heap[w.heap.size + 1 + 1]? = some (.cells #[.slice none 0 0, .slice none 0 0] 41 (0, 0)) := by rw [hW]; exact heap_at_new (by simp)
  go_enter Tryz.func25, Tryz.ntmps25
  go_upto_region 2 with fail
  rw [← hW]
  clear hW
  obtain ⟨x0, x1, _, _⟩ := cell_two b0
  obtain ⟨y0, y1, z0, z1⟩ := cell_two b2
  have hP0 : WholeMem W w.heap.size (W.setCell ⟨w.heap.size + 1 + 1, 0, none⟩ (.slice (some ⟨ba, 0, none⟩) ca ca)) ⟨ba, na, ca, bn, nn, cn, rb, rl, rc⟩ (.slice none 0 0) 0 :=
    ⟨(Below.refl _ _).setCell (p := ⟨w.heap.size + 1 + 1, 0, none⟩) (Nat.le_refl _) _, two_set0 b2, World.ownsRow_nil _ _ _ _⟩
  go_wp2_with fail
  clear x0 x1 y0 y1 z0 z1 b2
  go_loopw [5, 6] (fun i' _ wr => ∃ (i : Nat) (vn : Value), i ≤ cn ∧ i' = .int .i64 i ∧ WholeMem W w.heap.size wr ⟨ba, na, ca, bn, nn, cn, rb, rl, rc⟩ vn i)
    (fun i' _ _ => cn - (intOf i').toNat)
  case atStart => exact ⟨0, _, by omega, rfl, hP0⟩
  case round =>
    obtain ⟨i, vn, hi, rfl, hP⟩ := hrel
    clear hP0
    have hbW := hP.blw
    have hbw : Below w.heap.size w wr := BW.trans (hbW.mono (by omega))
    obtain ⟨y0, y1, z0, z1⟩ := cell_two hP.blk
    obtain ⟨al, cl, rfl, hal⟩ := ownsRow_shape hP.own
    have hsz := heap_lt hP.blk
    by_cases hlt : i < cn
    · have hc : wr.cell? ⟨bn, i, none⟩ = some (tlv ⟨ba, na, ca, bn, nn, cn, rb, rl, rc⟩ i) := (h.below hbw).nxt.cell (show i < cn from hlt)
      have hrc : rc i ≤ 1000000 := h.rc i hlt
      have hrl : rl i ≤ rc i := h.rl i hlt
      have HP : Hid _ := hP
      have H0 : Hid _ := h
      obtain ⟨ri, HRI⟩ : ∃ x, Hid (rowv rb rc rc i = x) := ⟨_, rfl⟩
      have HG : ∀ (nq : Nat) (g cap : Nat) (w2 : World), w2.ownsRow (w.heap.size + 1 + 1 + 1) 24 1 (.slice (some ⟨g, 0, none⟩) (i + 1) cap) (i + 1) ((List.range i).map (rowv rb rc rc) ++ [ri]) → ((wr.drewN nq).alloc (.cells #[ri] 24)).grownBy w2 (Value.slice al i cl).ownBlock →
          w2.heap[w.heap.size + 1 + 1]? = some (.cells #[.slice (some ⟨ba, 0, none⟩) ca ca, .slice al i cl] 41 (0, 0)) ∧ Hid (WholeMem W w.heap.size (w2.setCell ⟨w.heap.size + 1 + 1, 1, none⟩ (.slice (some ⟨g, 0, none⟩) (i + 1) cap)) ⟨ba, na, ca, bn, nn, cn, rb, rl, rc⟩ (.slice (some ⟨g, 0, none⟩) (i + 1) cap) (i + 1)) := by
        intro nq g cap w2 ho hg
        exact (HP.out.below ((below_drewN (Below.refl _ _) nq).alloc (by simp) (.cells #[ri] 24))).app (by show w2.ownsRow _ _ _ _ _ ((List.range i).map (rowv rb rc rc) ++ [rowv rb rc rc i]); rw [HRI.out]; exact ho) hg
      have HNA : ∀ nq : Nat, ((wr.drewN nq).alloc (.cells #[ri] 24)).ownsRow (w.heap.size + 1 + 1 + 1) 24 1 (.slice al i cl) i ((List.range i).map (rowv rb rc rc)) := fun nq =>
        (HP.out.below ((below_drewN (Below.refl _ _) nq).alloc (by simp) (.cells #[ri] 24))).own
      clear hP hal h
      by_cases hr0 : rc i = 0
      · have e1 : tlv ⟨ba, na, ca, bn, nn, cn, rb, rl, rc⟩ i = .slice none 0 0 := by unfold tlv; rw [if_pos hr0]
        have e2 : ri = .slice none 0 0 := by rw [← HRI.out]; unfold rowv; rw [if_pos hr0]
        subst e2
        rw [e1] at hc
        clear e1 hr0
        go_wp2_with fail
        go_quiet (fail)
        have hna := HNA nq
        go_wp2_with (at_builtin; refine wpList_append_fresh _ rfl _ _ 39 rfl (w.heap.size + 1 + 1 + 1) 24 i0 (.slice none 0 0) 1 24 Tryz.underlying39 hi0 hz0 hz01 hz02 rfl (by decide) _ i _ rfl hna ⟨wr.heap.size, 0, none⟩ 1 1 [.slice none 0 0] rfl rfl (cell_one_new _ _ _) (by intro u hu; simp at hu; subst hu; rfl) (by decide) (by unfold maxLen; omega) (by omega) (by simp; omega) ?_; intro g cap w2 hown hgr hfr; obtain ⟨f0, F⟩ := HG nq g cap w2 hown hgr; obtain ⟨f1, f2, f3, f4⟩ := cell_two f0)
        go_roundw
        case rel => exact ⟨i + 1, _, by omega, by go_num, F.out⟩
        case measure => simp [intOf]; omega
      · have e1 : tlv ⟨ba, na, ca, bn, nn, cn, rb, rl, rc⟩ i = .slice (some ⟨rb i, 0, none⟩) (rl i) (rc i) := by unfold tlv; rw [if_neg hr0]
        have e2 : ri = .slice (some ⟨rb i, 0, none⟩) (rc i) (rc i) := by rw [← HRI.out]; unfold rowv; rw [if_neg hr0]
        subst e2
        rw [e1] at hc
        clear e1
        go_wp2_with fail
        go_quiet (fail)
        have hna := HNA nq
        go_wp2_with (at_builtin; refine wpList_append_fresh _ rfl _ _ 39 rfl (w.heap.size + 1 + 1 + 1) 24 i0 (.slice none 0 0) 1 24 Tryz.underlying39 hi0 hz0 hz01 hz02 rfl (by decide) _ i _ rfl hna ⟨wr.heap.size, 0, none⟩ 1 1 [.slice (some ⟨rb i, 0, none⟩) (rc i) (rc i)] rfl rfl (cell_one_new _ _ _) (by intro u hu; simp at hu; subst hu; rfl) (by decide) (by unfold maxLen; omega) (by omega) (by simp; omega) ?_; intro g cap w2 hown hgr hfr; obtain ⟨f0, F⟩ := HG nq g cap w2 hown hgr; obtain ⟨f1, f2, f3, f4⟩ := cell_two f0)
        go_roundw
        case rel => exact ⟨i + 1, _, by omega, by go_num, F.out⟩
        case measure => simp [intOf]; omega
    · have he : i = cn := by omega
      subst he
      have hq : wr.heap[w.heap.size + 1]? = some (.cells #[.slice none 0 0, .slice none 0 0] 41 (0, 0)) := (hbW.block _ (by omega)).trans b1
      obtain ⟨q0, q1, p0, p1⟩ := cell_two hq
      obtain ⟨gl, rfl, _⟩ := hal (by omega)
      have HP : Hid _ := hP
      clear hP hal h
      go_wp2_with fail
      obtain ⟨r1, r2, r3⟩ := res_two (u := .slice (some ⟨ba, 0, none⟩) ca ca) (v := .slice (some ⟨gl, 0, none⟩) i cl) hq
      refine bodyPost_ret (v := .agg #[.slice (some ⟨ba, 0, none⟩) ca ca, .slice (some ⟨gl, 0, none⟩) i cl]) (by simp [results, Tryz.results25, go_sem, r1, r2]) rfl ?_
      have hlo := (HP.out.own.lt gl rfl).1
      refine ⟨(hbw.setCell (p := ⟨w.heap.size + 1, 0, none⟩) (by simp) _).setCell (p := ⟨w.heap.size + 1, 1, none⟩) (by simp) _, gl, ⟨cl, rfl⟩, by omega, ?_⟩
      exact (((RowTo.ofOwn HP.out.own (fun j hj => range_get _ _ j hj)).setOther (by simp; omega) _).setOther (by simp; omega) _)
end Go.Proofs.YtpngikmcjkjdaaaGreatDoor
namespace Go.Proofs.YtpngikmcjkjdaaaGreatDoor
open Go.RowKit
set_option linter.unusedVariables false
theorem raw_acc {w : World} {aa an : Option Addr} {na ca nn cn : Nat} {ra : Nat → Option Addr} {rl rc : Nat → Nat} {A : Nat → Bool} {X : Nat → Nat → Int} (h : RawAt w ⟨aa, an, na, ca, nn, cn, ra, rl, rc⟩ A X) (i : Nat) (hi : i < na) :
    ∃ b o, aa = some ⟨b, o, none⟩ ∧ w.cell? ⟨b, o + i, none⟩ = some (.bool (A i)) := h.acc i hi
theorem raw_row {w : World} {aa an : Option Addr} {na ca nn cn : Nat} {ra : Nat → Option Addr} {rl rc : Nat → Nat} {A : Nat → Bool} {X : Nat → Nat → Int} (h : RawAt w ⟨aa, an, na, ca, nn, cn, ra, rl, rc⟩ A X) (i : Nat) (hi : i < nn) :
    ∃ b o, an = some ⟨b, o, none⟩ ∧ w.cell? ⟨b, o + i, none⟩ = some (.slice (ra i) (rl i) (rc i)) := h.row i hi
theorem raw_cel {w : World} {aa an : Option Addr} {na ca nn cn : Nat} {ra : Nat → Option Addr} {rl rc : Nat → Nat} {A : Nat → Bool} {X : Nat → Nat → Int} (h : RawAt w ⟨aa, an, na, ca, nn, cn, ra, rl, rc⟩ A X) (i c : Nat) (hi : i < nn) (hc : c < rl i) :
    ∃ b o, ra i = some ⟨b, o, none⟩ ∧ w.cell? ⟨b, o + c, none⟩ = some (.int .i64 (X i c)) := h.cel i c hi hc
set_option maxRecDepth 20000 in
set_option maxHeartbeats 2000000 in
theorem lsame_ok (aa an bb bn : Option Addr) (na ca cb nn cn dn : Nat) (ra rb : Nat → Option Addr) (rl rc rd : Nat → Nat) (A : Nat → Bool) (X : Nat → Nat → Int) (w : World)
    (h1 : RawAt w ⟨aa, an, na, ca, nn, cn, ra, rl, rc⟩ A X) (h2 : RawAt w ⟨bb, bn, na, cb, nn, dn, rb, rl, rd⟩ A X) :
    Calls Tryz.prog 58 #[.agg #[.slice aa na ca, .slice an nn cn], .agg #[.slice bb na cb, .slice bn nn dn]] w fun e w' => e = .returned (.bool true) ∧ Below w.heap.size w w' := by
  have hla : na ≤ 9223372036854775807 := h1.la
  have hln : nn ≤ 9223372036854775807 := h1.ln
  obtain ⟨W, hW⟩ : ∃ W, W = (w.alloc (.cells #[.slice aa na ca, .slice an nn cn] 41)).alloc (.cells #[.slice bb na cb, .slice bn nn dn] 41) := ⟨_, rfl⟩
  have BW : Below w.heap.size w W := by
    rw [hW]; exact ((Below.refl _ _).alloc (Nat.le_refl _) _).alloc (by simp) _
  have b0 : W.heap[w.heap.size]? = some (.cells #[.slice aa na ca, .slice an nn cn] 41 (0, 0)) := by rw [hW]; exact heap_at_old (heap_at_new (by simp))
  have b1 : W.heap[w.heap.size + 1]? = some (.cells #[.slice bb na cb, .slice bn nn dn] 41 (0, 0)) := by rw [hW]; exact heap_at_new (by simp)
  have k1 := h1.below BW
  have k2 := h2.below BW
  have HLR : Hid (∀ i, i < nn → rl i ≤ 9223372036854775807) := h1.lr
  clear h1 h2
  obtain ⟨x0, x1, _, _⟩ := cell_two b0
  obtain ⟨x2, x3, _, _⟩ := cell_two b1
  have en : ((na : Int) != (na : Int)) = false := by simp
  have em : ((nn : Int) != (nn : Int)) = false := by simp
  go_enter Tryz.func58, Tryz.ntmps58
  go_upto_region 1 with fail
  rw [← hW]
  clear hW
  go_wp2_with fail
  clear en em
  go_loopw [5] (fun i' wr => ∃ i q : Nat, i ≤ na ∧ i' = .int .i64 i ∧ wr = W.drewN q) (fun i' _ => na - (intOf i').toNat)
  case atStart => exact ⟨0, 0, by omega, rfl, rfl⟩
  case round =>
    obtain ⟨i, q, hi, rfl, rfl⟩ := hrel
    by_cases hlt : i < na
    · obtain ⟨ba, oa, rfl, c0⟩ := raw_acc k1 i hlt
      obtain ⟨bc, oc, rfl, c1⟩ := raw_acc k2 i hlt
      have ee : (A i != A i) = false := by simp
      clear k1 k2
      go_wp2_with fail
      go_quiet (fail)
      go_wp2_with fail
      go_roundw
      case rel => exact ⟨i + 1, _, by omega, by go_num, rfl⟩
      case measure => simp [intOf]; omega
    · have he : i = na := by omega
      subst he
      go_wp2_with fail
      go_loopw [6] (fun j' wr => ∃ j q : Nat, j ≤ nn ∧ j' = .int .i64 j ∧ wr = W.drewN q) (fun j' _ => nn - (intOf j').toNat)
      case atStart => exact ⟨0, _, by omega, rfl, rfl⟩
      case round =>
        obtain ⟨j, q2, hj, rfl, rfl⟩ := hrel
        by_cases hltj : j < nn
        · obtain ⟨ba, oa, rfl, c0⟩ := raw_row k1 j hltj
          obtain ⟨bc, oc, rfl, c1⟩ := raw_row k2 j hltj
          have hlr := HLR.out j hltj
          have K1 : Hid _ := fun c => raw_cel k1 j c hltj
          have K2 : Hid _ := fun c => raw_cel k2 j c hltj
          obtain ⟨l, HL⟩ : ∃ l, Hid (rl j = l) := ⟨_, rfl⟩
          rw [HL.out] at c0 c1 hlr
          have em : ((l : Int) != (l : Int)) = false := by simp
          clear k1 k2
          go_wp2_with fail
          go_quiet (fail)
          go_wp2_with fail
          go_loopw [7] (fun c' wr => ∃ c q : Nat, c ≤ l ∧ c' = .int .i64 c ∧ wr = W.drewN q) (fun c' _ => l - (intOf c').toNat)
          case atStart => exact ⟨0, _, by omega, rfl, World.drewN_drewN _ _ _⟩
          case round =>
            obtain ⟨c, q3, hc, rfl, rfl⟩ := hrel
            by_cases hltc : c < l
            · obtain ⟨p, o, e1, d0⟩ := K1.out c (by rw [HL.out]; exact hltc)
              obtain ⟨p', o', e2, d1⟩ := K2.out c (by rw [HL.out]; exact hltc)
              rw [e1] at c0
              rw [e2] at c1
              have ee : (X j c != X j c) = false := by simp
              clear K1 K2
              go_wp2_with fail
              go_quiet (fail)
              go_wp2_with fail
              go_roundw
              case rel => exact ⟨c + 1, _, by omega, by go_num, rfl⟩
              case measure => simp [intOf]; omega
            · have he : c = l := by omega
              subst he
              go_wp2_with fail
              go_roundw
              case rel => exact ⟨j + 1, _, by omega, by go_num, rfl⟩
              case measure => simp [intOf]; omega
        · have he : j = nn := by omega
          subst he
          go_wp2_with fail
          go_ret
          exact ⟨rfl, below_drewN BW _⟩
end Go.Proofs.YtpngikmcjkjdaaaGreatDoor
namespace Go.Proofs.YtpngikmcjkjdaaaGreatDoor
open Go.RowKit
set_option linter.unusedVariables false
theorem rowv_eq (rb rl rc : Nat → Nat) (i : Nat) : rowv rb rl rc i = .slice (if rl i = 0 then none else some ⟨rb i, 0, none⟩) (rl i) (if rl i = 0 then 0 else rc i) := by
  unfold rowv; by_cases h : rl i = 0
  · simp [h]
  · simp [h]
theorem raw_of {w : World} {ga gn na ca nn cn : Nat} {rb rl rc : Nat → Nat} {A : Nat → Bool} {X : Nat → Nat → Int} (ao no : Option Addr) (ha : 0 < na → ao = some ⟨ga, 0, none⟩ ∧ RowTo w ga 4 na (fun i => .bool (A i))) (hn : 0 < nn → no = some ⟨gn, 0, none⟩ ∧ RowTo w gn 24 nn (rowv rb rl rc))
    (hr : ∀ j, j < nn → 0 < rl j → RowTo w (rb j) 3 (rl j) (fun c => .int .i64 (X j c))) (b1 : na ≤ 9223372036854775807) (b2 : nn ≤ 9223372036854775807) (b3 : ∀ i, i < nn → rl i ≤ 9223372036854775807) :
    RawAt w ⟨ao, no, na, ca, nn, cn, fun i => if rl i = 0 then none else some ⟨rb i, 0, none⟩, rl, fun i => if rl i = 0 then 0 else rc i⟩ A X where
  la := b1
  ln := b2
  lr := b3
  acc i hi := ⟨ga, 0, (ha (Nat.zero_lt_of_lt hi)).1, by rw [Nat.zero_add]; exact (ha (Nat.zero_lt_of_lt hi)).2.cell hi⟩
  row i hi := ⟨gn, 0, (hn (Nat.zero_lt_of_lt hi)).1, by rw [Nat.zero_add, (hn (Nat.zero_lt_of_lt hi)).2.cell hi, rowv_eq]⟩
  cel i c hi hc := by
    have h0 : 0 < rl i := Nat.zero_lt_of_lt hc
    refine ⟨rb i, 0, ?_, by rw [Nat.zero_add]; exact (hr i hi h0).cell hc⟩
    show (if rl i = 0 then none else some (⟨rb i, 0, none⟩ : Addr)) = _
    rw [if_neg (by omega)]
structure Hd where
  (bh : Nat)
  (t : TL)
  (wa wca wn wcn : Nat)
  (wb wc : Nat → Nat)
  (A : Nat → Bool)
  (X : Nat → Nat → Int)
  (lo hi : Nat)
structure HdAt (w : World) (h : Hd) : Prop where
  blk : w.heap[h.bh]? = some (.cells #[.slice (some ⟨h.t.ba, 0, none⟩) h.t.na h.t.ca, .slice (some ⟨h.t.bn, 0, none⟩) h.t.nn h.t.cn, .slice (some ⟨h.wa, 0, none⟩) h.t.ca h.wca, .slice (some ⟨h.wn, 0, none⟩) h.t.cn h.wcn] 54 (0, 0))
  tl : TLAt w h.t h.A h.X
  wacc : RowTo w h.wa 4 h.t.ca (fun i => .bool (h.A i))
  wnxt : RowTo w h.wn 24 h.t.cn (rowv h.wb h.t.rc h.wc)
  wrow : ∀ j, j < h.t.cn → 0 < h.t.rc j → RowTo w (h.wb j) 3 (h.t.rc j) (fun c => .int .i64 (h.X j c))
  siz : h.hi ≤ w.heap.size
  rh : h.lo ≤ h.bh ∧ h.bh < h.hi
  ra : h.lo ≤ h.t.ba ∧ h.t.ba < h.hi
  rn : h.lo ≤ h.t.bn ∧ h.t.bn < h.hi
  rr : ∀ j, j < h.t.cn → 0 < h.t.rc j → h.lo ≤ h.t.rb j ∧ h.t.rb j < h.hi
  sa : h.lo ≤ h.wa ∧ h.wa < h.hi
  sn : h.lo ≤ h.wn ∧ h.wn < h.hi
  sr : ∀ j, j < h.t.cn → 0 < h.t.rc j → h.lo ≤ h.wb j ∧ h.wb j < h.hi
  daw : h.t.ba ≠ h.wa
  drr : ∀ i j, i < j → j < h.t.cn → 0 < h.t.rc i → 0 < h.t.rc j → h.t.rb i ≠ h.t.rb j
  dww : ∀ i j, i < j → j < h.t.cn → 0 < h.t.rc i → 0 < h.t.rc j → h.wb i ≠ h.wb j
  drw : ∀ i j, i < h.t.cn → j < h.t.cn → 0 < h.t.rc i → 0 < h.t.rc j → h.t.rb i ≠ h.wb j
theorem HdAt.keep {w w' : World} {h : Hd} (a : HdAt w h) (hb : ∀ k, h.lo ≤ k → k < h.hi → w'.heap[k]? = w.heap[k]?) (hs : w.heap.size ≤ w'.heap.size) : HdAt w' h where
  blk := by rw [hb _ a.rh.1 a.rh.2]; exact a.blk
  tl := ⟨a.tl.na, a.tl.ca, a.tl.ca1, a.tl.nn, a.tl.cn, a.tl.cn1, a.tl.rl, a.tl.rc, a.tl.acc.of_block (hb _ a.ra.1 a.ra.2), a.tl.nxt.of_block (hb _ a.rn.1 a.rn.2), fun i hi hc => (a.tl.row i hi hc).of_block (hb _ (a.rr i hi hc).1 (a.rr i hi hc).2)⟩
  wacc := a.wacc.of_block (hb _ a.sa.1 a.sa.2)
  wnxt := a.wnxt.of_block (hb _ a.sn.1 a.sn.2)
  wrow j hj hc := (a.wrow j hj hc).of_block (hb _ (a.sr j hj hc).1 (a.sr j hj hc).2)
  siz := Nat.le_trans a.siz hs
  rh := a.rh
  ra := a.ra
  rn := a.rn
  rr := a.rr
  sa := a.sa
  sn := a.sn
  sr := a.sr
  daw := a.daw
  drr := a.drr
  dww := a.dww
  drw := a.drw
theorem HdAt.below {w w' : World} {h : Hd} (a : HdAt w h) (hb : Below w.heap.size w w') : HdAt w' h := a.keep (fun k _ hk => hb.block k (Nat.lt_of_lt_of_le hk a.siz)) hb.size
theorem cell_four {w : World} {b : Nat} {x y z u : Value} {t : TypeId} (h : w.heap[b]? = some (.cells #[x, y, z, u] t (0, 0))) : w.cell? ⟨b, 0, none⟩ = some x ∧ w.cell? ⟨b, 1, none⟩ = some y ∧ w.cell? ⟨b, 2, none⟩ = some z ∧ w.cell? ⟨b, 3, none⟩ = some u := by
  simp [World.cell?, h]
set_option maxRecDepth 20000 in
set_option maxHeartbeats 2000000 in
theorem hold_ok (t : TL) (A : Nat → Bool) (X : Nat → Nat → Int) (N : Nat) (w : World) (h : TLAt w t A X) (ra : N ≤ t.ba) (rn : N ≤ t.bn) (rr : ∀ j, j < t.cn → 0 < t.rc j → N ≤ t.rb j)
    (drr : ∀ i j, i < j → j < t.cn → 0 < t.rc i → 0 < t.rc j → t.rb i ≠ t.rb j) :
    Calls Tryz.prog 14 #[.agg #[.slice (some ⟨t.ba, 0, none⟩) t.na t.ca, .slice (some ⟨t.bn, 0, none⟩) t.nn t.cn]] w
      fun e w' => Below w.heap.size w w' ∧ ∃ d : Hd, e = .returned (.pointer (some ⟨d.bh, 0, none⟩)) ∧ HdAt w' d ∧ d.t = t ∧ d.A = A ∧ d.X = X ∧ d.lo = N ∧ d.hi = w'.heap.size := by
  have g3 := h.ca1
  have g6 := h.cn1
  have g2 := h.ca
  have g5 := h.cn
  have hN : N < w.heap.size := by have := h.acc.lt; omega
  obtain ⟨W, hW⟩ : ∃ W, W = w.alloc (.cells #[.slice (some ⟨t.ba, 0, none⟩) t.na t.ca, .slice (some ⟨t.bn, 0, none⟩) t.nn t.cn] 41) := ⟨_, rfl⟩
  have BW : Below w.heap.size w W := by rw [hW]; exact (Below.refl _ _).alloc (Nat.le_refl _) _
  have hWs : w.heap.size < W.heap.size := by rw [hW]; simp
  have b0 : W.heap[w.heap.size]? = some (.cells #[.slice (some ⟨t.ba, 0, none⟩) t.na t.ca, .slice (some ⟨t.bn, 0, none⟩) t.nn t.cn] 41 (0, 0)) := by rw [hW]; exact heap_at_new (by simp)
  have hT0 := h.below BW
  go_enter Tryz.func14, Tryz.ntmps14
  go_wp2_with fail
  rw [← hW]
  clear hW
  refine (whole_ok t A X W hT0).mono ?_
  rintro e w1 ⟨hB1, g, cap, rfl, hg, hG⟩
  have hs1 := hB1.size
  have hT1 := hT0.below hB1
  have a0 := (hB1.block _ (by omega)).trans b0
  have BW1 : Below w.heap.size w w1 := BW.trans (hB1.mono (by omega))
  go_upto_region 2 with fail
  obtain ⟨W2, hW2⟩ : ∃ W2, W2 = w1.alloc (.cells #[.slice (some ⟨t.ba, 0, none⟩) t.ca t.ca, .slice (some ⟨g, 0, none⟩) t.cn cap] 41) := ⟨_, rfl⟩
  have hB2 : Below w1.heap.size w1 W2 := by rw [hW2]; exact (Below.refl _ _).alloc (Nat.le_refl _) _
  have hs2 : w1.heap.size < W2.heap.size := by rw [hW2]; simp
  have c0 : W2.heap[w1.heap.size]? = some (.cells #[.slice (some ⟨t.ba, 0, none⟩) t.ca t.ca, .slice (some ⟨g, 0, none⟩) t.cn cap] 41 (0, 0)) := by rw [hW2]; exact heap_at_new rfl
  have c1 := (hB2.block _ (by omega)).trans a0
  have hT2 := hT1.below hB2
  have hR : RawAt W2 ⟨some ⟨t.ba, 0, none⟩, some ⟨g, 0, none⟩, t.ca, t.ca, t.cn, cap, fun i => if t.rc i = 0 then none else some ⟨t.rb i, 0, none⟩, t.rc, fun i => if t.rc i = 0 then 0 else t.rc i⟩ A X :=
    raw_of _ _ (fun _ => ⟨rfl, hT2.acc⟩) (fun _ => ⟨rfl, hG.below hB2⟩) hT2.row (by omega) (by omega) (fun i hi => by have := h.rc i hi; omega)
  have HC := copied_ok _ _ _ _ _ _ _ _ _ A X W2.drew (hR.below ((Below.refl _ _).drew)) (by omega) (by omega) (fun i hi => by have := h.rc i hi; omega)
  have hb12 : Below w.heap.size w W2 := BW1.trans (hB2.mono (by omega))
  rw [← hW2]
  have HH : Hid _ := h
  have HB : Hid (Below w.heap.size w W2) := hb12
  have HRR : Hid _ := rr
  have HDD : Hid _ := drr
  clear hW2 hB1 hB2 hT0 hT1 hG hT2 hR a0 b0 BW BW1 h rr drr hb12
  obtain ⟨x0, x1, _, _⟩ := cell_two c0
  obtain ⟨x2, x3, _, _⟩ := cell_two c1
  go_region_with (go_at_call 26; refine Calls.mono HC ?_; rintro e w3 ⟨hB3', ga, ca', gn, cn', rb, rc, rfl, hC⟩; have hB3 : Below W2.heap.size W2 w3 := ((Below.refl W2.heap.size W2).drew).trans hB3'; clear hB3'; rw [show lstv ga t.ca ca' = .slice (some ⟨ga, 0, none⟩) t.ca ca' from if_neg (by omega), show lstv gn t.cn cn' = .slice (some ⟨gn, 0, none⟩) t.cn cn' from if_neg (by omega)]; obtain ⟨u2, u3, _, _⟩ := cell_two ((hB3.block _ (by omega)).trans c1); have HCC : Hid (CopyAt W2.heap.size w3 ga gn rb rc t.ca t.cn t.rc A X) := hC; have HB3 : Hid (Below W2.heap.size W2 w3) := hB3; have hs3 := hB3.size; clear hC hB3)
  all_goals go_wp2_with fail
  all_goals go_ret
  all_goals
    have hh := HH.out
    have cc := HCC.out
    have hb3 : Below w.heap.size w w3 := HB.out.trans (HB3.out.mono (by omega))
    have hsz := hb3.size
    have hb4 : Below w.heap.size w (w3.alloc (.cells #[.slice (some ⟨t.ba, 0, none⟩) t.na t.ca, .slice (some ⟨t.bn, 0, none⟩) t.nn t.cn, .slice (some ⟨ga, 0, none⟩) t.ca ca', .slice (some ⟨gn, 0, none⟩) t.cn cn'] 54)) := hb3.alloc (by omega) _
    refine ⟨hb4, ⟨w3.heap.size, t, ga, ca', gn, cn', rb, rc, A, X, N, w3.heap.size + 1⟩, rfl, ?_, rfl, rfl, rfl, rfl, by simp⟩
    have l1 := hh.acc.lt
    have l2 := hh.nxt.lt
    have l3 := (cc.acc (by omega)).2.lt
    have l4 := (cc.nxt (by omega)).2.lt
    have l5 := (cc.acc (by omega)).1
    have l6 := (cc.nxt (by omega)).1
    refine ⟨heap_at_new rfl, hh.below hb4, (cc.acc (by omega)).2.alloc _, (cc.nxt (by omega)).2.alloc _, fun j hj hc => (cc.row j hj hc).2.alloc _, by simp, ⟨by simp; omega, by simp⟩, ⟨ra, by simp; omega⟩, ⟨rn, by simp; omega⟩, fun j hj hc => ⟨HRR.out j hj hc, by have := (hh.row j hj hc).lt; simp; omega⟩, ⟨by simp; omega, by simp; omega⟩, ⟨by simp; omega, by simp; omega⟩,
      fun j hj hc => ⟨by have := (cc.row j hj hc).1; simp; omega, by have := (cc.row j hj hc).2.lt; simp; omega⟩, by simp; omega, HDD.out, cc.dis, fun i j hi hj hci hcj => ?_⟩
    have l7 := (hh.row i hi hci).lt
    have l8 := (cc.row j hj hcj).1
    simp; omega
end Go.Proofs.YtpngikmcjkjdaaaGreatDoor
namespace Go.Proofs.YtpngikmcjkjdaaaGreatDoor
open Go.RowKit
set_option linter.unusedVariables false
set_option maxRecDepth 20000 in
set_option maxHeartbeats 2000000 in
theorem still_ok (d : Hd) (w : World) (h : HdAt w d) :
    Calls Tryz.prog 23 #[.pointer (some ⟨d.bh, 0, none⟩)] w fun e w' => e = .returned (.bool true) ∧ Below w.heap.size w w' := by
  have g3 := h.tl.ca1
  have g6 := h.tl.cn1
  have g2 := h.tl.ca
  have g5 := h.tl.cn
  have hlt := heap_lt h.blk
  obtain ⟨x0, x1, x2, x3⟩ := cell_four h.blk
  have HC := whole_ok d.t d.A d.X w h.tl
  go_enter Tryz.func23, Tryz.ntmps23
  go_wp2_with fail
  refine HC.mono ?_
  clear HC
  rintro e w1 ⟨hB1, g, cap, rfl, hg, hG⟩
  have h1 := h.below hB1
  have hs1 := hB1.size
  clear x0 x1 x2 x3
  go_upto_region 2 with fail
  obtain ⟨W2, hW2⟩ : ∃ W2, W2 = w1.alloc (.cells #[.slice (some ⟨d.t.ba, 0, none⟩) d.t.ca d.t.ca, .slice (some ⟨g, 0, none⟩) d.t.cn cap] 41) := ⟨_, rfl⟩
  have hB2 : Below w1.heap.size w1 W2 := by rw [hW2]; exact (Below.refl _ _).alloc (Nat.le_refl _) _
  have c0 : W2.heap[w1.heap.size]? = some (.cells #[.slice (some ⟨d.t.ba, 0, none⟩) d.t.ca d.t.ca, .slice (some ⟨g, 0, none⟩) d.t.cn cap] 41 (0, 0)) := by rw [hW2]; exact heap_at_new rfl
  have h2 := h1.below hB2
  obtain ⟨x0, x1, x2, x3⟩ := cell_four h2.blk
  obtain ⟨y0, y1, _, _⟩ := cell_two c0
  have bd : ∀ i, i < d.t.cn → d.t.rc i ≤ 9223372036854775807 := fun i hi => by have := h.tl.rc i hi; omega
  have hR : RawAt W2 ⟨some ⟨d.t.ba, 0, none⟩, some ⟨g, 0, none⟩, d.t.ca, d.t.ca, d.t.cn, cap, fun i => if d.t.rc i = 0 then none else some ⟨d.t.rb i, 0, none⟩, d.t.rc, fun i => if d.t.rc i = 0 then 0 else d.t.rc i⟩ d.A d.X :=
    raw_of _ _ (fun _ => ⟨rfl, h2.tl.acc⟩) (fun _ => ⟨rfl, hG.below hB2⟩) h2.tl.row (by omega) (by omega) bd
  have hR' : RawAt W2 ⟨some ⟨d.wa, 0, none⟩, some ⟨d.wn, 0, none⟩, d.t.ca, d.wca, d.t.cn, d.wcn, fun i => if d.t.rc i = 0 then none else some ⟨d.wb i, 0, none⟩, d.t.rc, fun i => if d.t.rc i = 0 then 0 else d.wc i⟩ d.A d.X :=
    raw_of _ _ (fun _ => ⟨rfl, h2.wacc⟩) (fun _ => ⟨rfl, h2.wnxt⟩) h2.wrow (by omega) (by omega) bd
  have HC := lsame_ok _ _ _ _ _ _ _ _ _ _ _ _ _ _ _ d.A d.X W2.drew (hR.below ((Below.refl _ _).drew)) (hR'.below ((Below.refl _ _).drew))
  rw [← hW2]
  have HB : Hid (Below w.heap.size w W2) := hB1.trans (hB2.mono (by omega))
  have hs2 := hB2.size
  clear hW2 hB1 hB2 hG hR hR' h h1 c0 bd h2
  go_region_with (go_at_call 58; refine Calls.mono HC ?_; rintro e w3 ⟨rfl, hB3'⟩; have HB3 : Hid (Below W2.heap.size W2 w3) := ((Below.refl W2.heap.size W2).drew).trans hB3'; clear hB3')
  all_goals go_wp2_with fail
  all_goals go_ret
  all_goals exact ⟨rfl, HB.out.trans (HB3.out.mono (by omega))⟩
def lpickN (c : Int) (n : Nat) : Nat := if c < 0 then ((-(c + 1)) % n).toNat else (c % n).toNat
theorem lpickN_lt (c : Int) (n : Nat) (h : 1 ≤ n) : lpickN c n < n := by
  unfold lpickN; split
  · have := Int.emod_lt_of_pos (-(c+1)) (b := (n : Int)) (by omega); have := Int.emod_nonneg (-(c+1)) (b := (n : Int)) (by omega); omega
  · have := Int.emod_lt_of_pos c (b := (n : Int)) (by omega); have := Int.emod_nonneg c (b := (n : Int)) (by omega); omega
theorem lneg_tmod (c n : Int) (h : c < 0) : -((c + 1).tmod n) = (-(c + 1)) % n := by
  rw [← Int.neg_tmod, Int.tmod_eq_emod_of_nonneg (by omega)]
set_option maxRecDepth 20000 in
set_option maxHeartbeats 400000 in
theorem lpick_ok (c : Int) (n : Int) (w : World) (h1 : 1 ≤ n) (h2 : n ≤ 4398046511104) (hc1 : -9223372036854775808 ≤ c) (hc2 : c ≤ 9223372036854775807) :
    Calls Tryz.prog 16 #[.int .i64 c, .int .i64 n] w fun e w' => e = .returned (.int .i64 (lpickN c n.toNat)) ∧ w' = w := by
  have hn : ((n.toNat : Nat) : Int) = n := by omega
  by_cases h : c < 0
  · have he : ((lpickN c n.toNat : Nat) : Int) = (-(c + 1)) % n := by
      unfold lpickN; rw [if_pos h, hn]; have := Int.emod_nonneg (-(c+1)) (b := n) (by omega); omega
    rw [he]
    clear he hn
    go_enter Tryz.func16, Tryz.ntmps16
    go_wp2
    go_ret
    exact ⟨ret_int (lneg_tmod c n h), rfl⟩
  · have he : ((lpickN c n.toNat : Nat) : Int) = c % n := by
      unfold lpickN; rw [if_neg h, hn]; have := Int.emod_nonneg c (b := n) (by omega); omega
    rw [he]
    clear he hn
    go_enter Tryz.func16, Tryz.ntmps16
    go_wp2
    go_ret
    exact ⟨rfl, rfl⟩
theorem heap_ne {w : World} {b b' t t' n : Nat} {c : Array Value} {f : Nat → Value} (h : w.heap[b]? = some (.cells c t (0, 0))) (h' : RowTo w b' t' n f) (ht : t ≠ t') : b ≠ b' := by
  obtain ⟨c', hb', _, _⟩ := h'
  intro e
  subst e
  rw [h] at hb'
  simp only [Option.some.injEq, Obj.cells.injEq] at hb'
  exact ht hb'.2.1
theorem HdAt.put {w : World} {d : Hd} (a : HdAt w d) {i j : Nat} (hi : i < d.t.cn) (hc : 0 < d.t.rc i) (c : Int) :
    HdAt ((w.setCell ⟨d.t.rb i, j, none⟩ (.int .i64 c)).setCell ⟨d.wb i, j, none⟩ (.int .i64 c)) { d with X := fun x y => if x = i then (if y = j then c else d.X i y) else d.X x y } := by
  have r1 := a.tl.row i hi hc
  have r2 := a.wrow i hi hc
  have hrw := a.drw i i hi hi hc hc
  have e1 := heap_ne a.blk r1 (by decide)
  have e2 := heap_ne a.blk r2 (by decide)
  refine ⟨heap_set_other (heap_set_other a.blk e1) e2, ⟨a.tl.na, a.tl.ca, a.tl.ca1, a.tl.nn, a.tl.cn, a.tl.cn1, a.tl.rl, a.tl.rc, ?_, ?_, fun x hx hxc => ?_⟩, ?_, ?_, fun x hx hxc => ?_, by have := a.siz; simpa using this, a.rh, a.ra, a.rn, a.rr, a.sa, a.sn, a.sr, a.daw, a.drr, a.dww, a.drw⟩
  · exact (a.tl.acc.setOther (a.tl.acc.ne r1 (by decide)) _).setOther (a.tl.acc.ne r2 (by decide)) _
  · exact (a.tl.nxt.setOther (a.tl.nxt.ne r1 (by decide)) _).setOther (a.tl.nxt.ne r2 (by decide)) _
  · by_cases e : x = i
    · subst e
      refine ((r1.set j _).setOther hrw _).congr (fun y _ => ?_)
      simp only [if_true]; by_cases e : y = j <;> simp [e]
    · simp only [if_neg e]
      refine ((a.tl.row x hx hxc).setOther ?_ _).setOther (a.drw x i hx hi hxc hc) _
      rcases Nat.lt_or_gt_of_ne e with h | h
      · exact a.drr x i h hi hxc hc
      · exact fun e' => a.drr i x h hx hc hxc e'.symm
  · exact (a.wacc.setOther (a.wacc.ne r1 (by decide)) _).setOther (a.wacc.ne r2 (by decide)) _
  · exact (a.wnxt.setOther (a.wnxt.ne r1 (by decide)) _).setOther (a.wnxt.ne r2 (by decide)) _
  · by_cases e : x = i
    · subst e
      refine ((r2.setOther (fun e' => hrw e'.symm) _).set j _).congr (fun y _ => ?_)
      simp only [if_true]; by_cases e : y = j <;> simp [e]
    · simp only [if_neg e]
      refine ((a.wrow x hx hxc).setOther (fun e' => a.drw i x hi hx hc hxc e'.symm) _).setOther ?_ _
      rcases Nat.lt_or_gt_of_ne e with h | h
      · exact a.dww x i h hi hxc hc
      · exact fun e' => a.dww i x h hx hc hxc e'.symm
theorem HdAt.flip {w : World} {d : Hd} (a : HdAt w d) {i : Nat} (v : Bool) :
    HdAt ((w.setCell ⟨d.t.ba, i, none⟩ (.bool v)).setCell ⟨d.wa, i, none⟩ (.bool v)) { d with A := fun x => if x = i then v else d.A x } := by
  have r1 := a.tl.acc
  have r2 := a.wacc
  have hrw := a.daw
  have e1 := heap_ne a.blk r1 (by decide)
  have e2 := heap_ne a.blk r2 (by decide)
  refine ⟨heap_set_other (heap_set_other a.blk e1) e2, ⟨a.tl.na, a.tl.ca, a.tl.ca1, a.tl.nn, a.tl.cn, a.tl.cn1, a.tl.rl, a.tl.rc, ?_, ?_, fun x hx hxc => ?_⟩, ?_, ?_, fun x hx hxc => ?_, by have := a.siz; simpa using this, a.rh, a.ra, a.rn, a.rr, a.sa, a.sn, a.sr, a.daw, a.drr, a.dww, a.drw⟩
  · refine ((r1.set i _).setOther hrw _).congr (fun y _ => ?_)
    by_cases e : y = i <;> simp [e]
  · exact (a.tl.nxt.setOther (a.tl.nxt.ne r1 (by decide)) _).setOther (a.tl.nxt.ne r2 (by decide)) _
  · exact ((a.tl.row x hx hxc).setOther ((a.tl.row x hx hxc).ne r1 (by decide)) _).setOther ((a.tl.row x hx hxc).ne r2 (by decide)) _
  · refine ((r2.setOther (fun e' => hrw e'.symm) _).set i _).congr (fun y _ => ?_)
    by_cases e : y = i <;> simp [e]
  · exact (a.wnxt.setOther (a.wnxt.ne r1 (by decide)) _).setOther (a.wnxt.ne r2 (by decide)) _
  · exact ((a.wrow x hx hxc).setOther ((a.wrow x hx hxc).ne r1 (by decide)) _).setOther ((a.wrow x hx hxc).ne r2 (by decide)) _
end Go.Proofs.YtpngikmcjkjdaaaGreatDoor
