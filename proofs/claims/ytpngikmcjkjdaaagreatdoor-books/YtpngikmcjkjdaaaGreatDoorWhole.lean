import Derived.Test.YtpngikmcjkjdaaaGreatDoorCopied
namespace Go.Proofs.YtpngikmcjkjdaaaGreatDoor
open Go.RowKit
set_option linter.unusedVariables false

/-- Where a table of the caller's lies, with all its room. -/
structure TL where
  (ba na ca bn nn cn : Nat)
  (rb rl rc : Nat → Nat)
def tlv (t : TL) (i : Nat) : Value := if t.rc i = 0 then .slice none 0 0 else .slice (some ⟨t.rb i, 0, none⟩) (t.rl i) (t.rc i)
def TL.val (t : TL) : Value := .agg #[.slice (some ⟨t.ba, 0, none⟩) t.na t.ca, .slice (some ⟨t.bn, 0, none⟩) t.nn t.cn]
structure TLAt (w : World) (t : TL) (A : Nat → Bool) (X : Nat → Nat → Int) : Prop where
  na : t.na ≤ t.ca
  ca : t.ca ≤ 4398046511104
  ca1 : 1 ≤ t.ca
  nn : t.nn ≤ t.cn
  cn : t.cn ≤ 4398046511104
  cn1 : 1 ≤ t.cn
  rl : ∀ i, i < t.cn → t.rl i ≤ t.rc i
  rc : ∀ i, i < t.cn → t.rc i ≤ 1000000
  acc : RowTo w t.ba 4 t.ca (fun i => .bool (A i))
  nxt : RowTo w t.bn 24 t.cn (tlv t)
  row : ∀ i, i < t.cn → 0 < t.rc i → RowTo w (t.rb i) 3 (t.rc i) (fun c => .int .i64 (X i c))
theorem TLAt.below {w w' : World} {t : TL} {A : Nat → Bool} {X : Nat → Nat → Int} (h : TLAt w t A X) (hb : Below w.heap.size w w') : TLAt w' t A X :=
  ⟨h.na, h.ca, h.ca1, h.nn, h.cn, h.cn1, h.rl, h.rc, h.acc.below hb, h.nxt.below hb, fun i hi hc => (h.row i hi hc).below hb⟩

structure WholeMem (W : World) (B : Nat) (w : World) (t : TL) (vn : Value) (i : Nat) : Prop where
  blw : Below (B + 1 + 1) W w
  blk : w.heap[B + 1 + 1]? = some (.cells #[.slice (some ⟨t.ba, 0, none⟩) t.ca t.ca, vn] 41 (0, 0))
  own : w.ownsRow (B + 1 + 1 + 1) 24 1 vn i ((List.range i).map (rowv t.rb t.rc t.rc))
theorem WholeMem.below {W : World} {B : Nat} {w w2 : World} {t : TL} {vn : Value} {i : Nat} (h : WholeMem W B w t vn i) (hb : Below w.heap.size w w2) : WholeMem W B w2 t vn i where
  blw := h.blw.trans (hb.mono (by have := heap_lt h.blk; omega))
  blk := by rw [hb.block _ (heap_lt h.blk)]; exact h.blk
  own := ownsRow_below h.own hb
theorem WholeMem.app {W : World} {B : Nat} {w w2 : World} {t : TL} {vn : Value} {i : Nat} (h : WholeMem W B w t vn i) {g cap : Nat} (hown : w2.ownsRow (B + 1 + 1 + 1) 24 1 (.slice (some ⟨g, 0, none⟩) (i + 1) cap) (i + 1) ((List.range i).map (rowv t.rb t.rc t.rc) ++ [rowv t.rb t.rc t.rc i]))
    (hg : w.grownBy w2 vn.ownBlock) :
    w2.heap[B + 1 + 1]? = some (.cells #[.slice (some ⟨t.ba, 0, none⟩) t.ca t.ca, vn] 41 (0, 0)) ∧
    WholeMem W B (w2.setCell ⟨B + 1 + 1, 1, none⟩ (.slice (some ⟨g, 0, none⟩) (i + 1) cap)) t (.slice (some ⟨g, 0, none⟩) (i + 1) cap) (i + 1) := by
  have hs := heap_lt h.blk
  have hlt := fun x e => h.own.lt x e
  have hblk : w2.heap[B + 1 + 1]? = some (.cells #[.slice (some ⟨t.ba, 0, none⟩) t.ca t.ca, vn] 41 (0, 0)) := by
    rw [hg.block _ hs (fun e => by have := (hlt _ e.symm).1; omega)]; exact h.blk
  refine ⟨hblk, (h.blw.grown hg (by omega) (fun x e => by have := (hlt x e).1; omega)).setCell (Nat.le_refl _) _, two_set1 hblk, ?_⟩
  have : (List.range i).map (rowv t.rb t.rc t.rc) ++ [rowv t.rb t.rc t.rc i] = (List.range (i + 1)).map (rowv t.rb t.rc t.rc) := by simp [List.range_succ]
  rw [this] at hown
  exact ownsRow_setCell_below hown (by simp) _

set_option maxRecDepth 20000 in
set_option maxHeartbeats 2000000 in
theorem whole_ok (t : TL) (A : Nat → Bool) (X : Nat → Nat → Int) (w : World) (h : TLAt w t A X) :
    Calls Tryz.prog 25 #[.agg #[.slice (some ⟨t.ba, 0, none⟩) t.na t.ca, .slice (some ⟨t.bn, 0, none⟩) t.nn t.cn]] w
      fun e w' => Below w.heap.size w w' ∧ ∃ g cap, e = .returned (.agg #[.slice (some ⟨t.ba, 0, none⟩) t.ca t.ca, .slice (some ⟨g, 0, none⟩) t.cn cap]) ∧ w.heap.size ≤ g ∧ RowTo w' g 24 t.cn (rowv t.rb t.rc t.rc) := by
  obtain ⟨i0, hi0, hz0, hz01, hz02⟩ := info_parts Tryz.infoI
  have g1 := h.na
  have g2 := h.ca
  have g3 := h.ca1
  have g4 := h.nn
  have g5 := h.cn
  have g6 := h.cn1
  obtain ⟨ba, na, ca, bn, nn, cn, rb, rl, rc⟩ := t
  simp only at g1 g2 g3 g4 g5 g6 ⊢
  obtain ⟨W, hW⟩ : ∃ W, W = ((w.alloc (.cells #[.slice (some ⟨ba, 0, none⟩) na ca, .slice (some ⟨bn, 0, none⟩) nn cn] 41)).alloc (.cells #[.slice none 0 0, .slice none 0 0] 41)).alloc (.cells #[.slice none 0 0, .slice none 0 0] 41) := ⟨_, rfl⟩
  have BW : Below w.heap.size w W := by
    rw [hW]; exact (((Below.refl _ _).alloc (Nat.le_refl _) _).alloc (by simp) _).alloc (by simp; omega) _
  have hWs : w.heap.size + 1 + 1 + 1 ≤ W.heap.size := by rw [hW]; simp
  have b0 : W.heap[w.heap.size]? = some (.cells #[.slice (some ⟨ba, 0, none⟩) na ca, .slice (some ⟨bn, 0, none⟩) nn cn] 41 (0, 0)) := by rw [hW]; exact heap_at_old (heap_at_old (heap_at_new (by simp)))
  have b1 : W.heap[w.heap.size + 1]? = some (.cells #[.slice none 0 0, .slice none 0 0] 41 (0, 0)) := by rw [hW]; exact heap_at_old (heap_at_new (by simp))
  have b2 : W.heap[w.heap.size + 1 + 1]? = some (.cells #[.slice none 0 0, .slice none 0 0] 41 (0, 0)) := by rw [hW]; exact heap_at_new (by simp)
  go_enter Tryz.func25, Tryz.ntmps25
  go_upto_region 2 with fail
  rw [← hW]
  clear hW
  obtain ⟨x0, x1, _, _⟩ := cell_two b0
  obtain ⟨y0, y1, z0, z1⟩ := cell_two b2
  have hP0 : WholeMem W w.heap.size (W.setCell ⟨w.heap.size + 1 + 1, 0, none⟩ (.slice (some ⟨ba, 0, none⟩) ca ca)) ⟨ba, na, ca, bn, nn, cn, rb, rl, rc⟩ (.slice none 0 0) 0 :=
    ⟨(Below.refl _ _).setCell (p := ⟨w.heap.size + 1 + 1, 0, none⟩) (Nat.le_refl _) _, two_set0 b2, World.ownsRow_nil _ _ _ _⟩
  go_wp2_with fail
  clear x0 x1 y0 y1 z0 z1 b2
  go_loopw [5, 6] (fun i' _ wr => ∃ (i : Nat) (vn : Value), i ≤ cn ∧ i' = .int .i64 i ∧ WholeMem W w.heap.size wr ⟨ba, na, ca, bn, nn, cn, rb, rl, rc⟩ vn i)
    (fun i' _ _ => cn - (intOf i').toNat)
  case atStart => exact ⟨0, _, by omega, rfl, hP0⟩
  case round =>
    obtain ⟨i, vn, hi, rfl, hP⟩ := hrel
    clear hP0
    have hbW := hP.blw
    have hbw : Below w.heap.size w wr := BW.trans (hbW.mono (by omega))
    obtain ⟨y0, y1, z0, z1⟩ := cell_two hP.blk
    obtain ⟨al, cl, rfl, hal⟩ := ownsRow_shape hP.own
    have hsz := heap_lt hP.blk
    by_cases hlt : i < cn
    · have hc : wr.cell? ⟨bn, i, none⟩ = some (tlv ⟨ba, na, ca, bn, nn, cn, rb, rl, rc⟩ i) := (h.below hbw).nxt.cell (show i < cn from hlt)
      have hrc : rc i ≤ 1000000 := h.rc i hlt
      have hrl : rl i ≤ rc i := h.rl i hlt
      have HP : Hid _ := hP
      have H0 : Hid _ := h
      obtain ⟨ri, HRI⟩ : ∃ x, Hid (rowv rb rc rc i = x) := ⟨_, rfl⟩
      have HG : ∀ (nq : Nat) (g cap : Nat) (w2 : World), w2.ownsRow (w.heap.size + 1 + 1 + 1) 24 1 (.slice (some ⟨g, 0, none⟩) (i + 1) cap) (i + 1) ((List.range i).map (rowv rb rc rc) ++ [ri]) → ((wr.drewN nq).alloc (.cells #[ri] 24)).grownBy w2 (Value.slice al i cl).ownBlock →
          w2.heap[w.heap.size + 1 + 1]? = some (.cells #[.slice (some ⟨ba, 0, none⟩) ca ca, .slice al i cl] 41 (0, 0)) ∧ Hid (WholeMem W w.heap.size (w2.setCell ⟨w.heap.size + 1 + 1, 1, none⟩ (.slice (some ⟨g, 0, none⟩) (i + 1) cap)) ⟨ba, na, ca, bn, nn, cn, rb, rl, rc⟩ (.slice (some ⟨g, 0, none⟩) (i + 1) cap) (i + 1)) := by
        intro nq g cap w2 ho hg
        exact (HP.out.below ((below_drewN (Below.refl _ _) nq).alloc (by simp) (.cells #[ri] 24))).app (by show w2.ownsRow _ _ _ _ _ ((List.range i).map (rowv rb rc rc) ++ [rowv rb rc rc i]); rw [HRI.out]; exact ho) hg
      have HNA : ∀ nq : Nat, ((wr.drewN nq).alloc (.cells #[ri] 24)).ownsRow (w.heap.size + 1 + 1 + 1) 24 1 (.slice al i cl) i ((List.range i).map (rowv rb rc rc)) := fun nq =>
        (HP.out.below ((below_drewN (Below.refl _ _) nq).alloc (by simp) (.cells #[ri] 24))).own
      clear hP hal h
      by_cases hr0 : rc i = 0
      · have e1 : tlv ⟨ba, na, ca, bn, nn, cn, rb, rl, rc⟩ i = .slice none 0 0 := by unfold tlv; rw [if_pos hr0]
        have e2 : ri = .slice none 0 0 := by rw [← HRI.out]; unfold rowv; rw [if_pos hr0]
        subst e2
        rw [e1] at hc
        clear e1 hr0
        go_wp2_with fail
        go_quiet (fail)
        have hna := HNA nq
        go_wp2_with (at_builtin; refine wpList_append_fresh _ rfl _ _ 39 rfl (w.heap.size + 1 + 1 + 1) 24 i0 (.slice none 0 0) 1 24 Tryz.underlying39 hi0 hz0 hz01 hz02 rfl (by decide) _ i _ rfl hna ⟨wr.heap.size, 0, none⟩ 1 1 [.slice none 0 0] rfl rfl (cell_one_new _ _ _) (by intro u hu; simp at hu; subst hu; rfl) (by decide) (by unfold maxLen; omega) (by omega) (by simp; omega) ?_; intro g cap w2 hown hgr hfr; obtain ⟨f0, F⟩ := HG nq g cap w2 hown hgr; obtain ⟨f1, f2, f3, f4⟩ := cell_two f0)
        go_roundw
        case rel => exact ⟨i + 1, _, by omega, by go_num, F.out⟩
        case measure => simp [intOf]; omega
      · have e1 : tlv ⟨ba, na, ca, bn, nn, cn, rb, rl, rc⟩ i = .slice (some ⟨rb i, 0, none⟩) (rl i) (rc i) := by unfold tlv; rw [if_neg hr0]
        have e2 : ri = .slice (some ⟨rb i, 0, none⟩) (rc i) (rc i) := by rw [← HRI.out]; unfold rowv; rw [if_neg hr0]
        subst e2
        rw [e1] at hc
        clear e1
        go_wp2_with fail
        go_quiet (fail)
        have hna := HNA nq
        go_wp2_with (at_builtin; refine wpList_append_fresh _ rfl _ _ 39 rfl (w.heap.size + 1 + 1 + 1) 24 i0 (.slice none 0 0) 1 24 Tryz.underlying39 hi0 hz0 hz01 hz02 rfl (by decide) _ i _ rfl hna ⟨wr.heap.size, 0, none⟩ 1 1 [.slice (some ⟨rb i, 0, none⟩) (rc i) (rc i)] rfl rfl (cell_one_new _ _ _) (by intro u hu; simp at hu; subst hu; rfl) (by decide) (by unfold maxLen; omega) (by omega) (by simp; omega) ?_; intro g cap w2 hown hgr hfr; obtain ⟨f0, F⟩ := HG nq g cap w2 hown hgr; obtain ⟨f1, f2, f3, f4⟩ := cell_two f0)
        go_roundw
        case rel => exact ⟨i + 1, _, by omega, by go_num, F.out⟩
        case measure => simp [intOf]; omega
    · have he : i = cn := by omega
      subst he
      have hq : wr.heap[w.heap.size + 1]? = some (.cells #[.slice none 0 0, .slice none 0 0] 41 (0, 0)) := (hbW.block _ (by omega)).trans b1
      obtain ⟨q0, q1, p0, p1⟩ := cell_two hq
      obtain ⟨gl, rfl, _⟩ := hal (by omega)
      have HP : Hid _ := hP
      clear hP hal h
      go_wp2_with fail
      obtain ⟨r1, r2, r3⟩ := res_two (u := .slice (some ⟨ba, 0, none⟩) ca ca) (v := .slice (some ⟨gl, 0, none⟩) i cl) hq
      refine bodyPost_ret (v := .agg #[.slice (some ⟨ba, 0, none⟩) ca ca, .slice (some ⟨gl, 0, none⟩) i cl]) (by simp [results, Tryz.results25, go_sem, r1, r2]) rfl ?_
      have hlo := (HP.out.own.lt gl rfl).1
      refine ⟨(hbw.setCell (p := ⟨w.heap.size + 1, 0, none⟩) (by simp) _).setCell (p := ⟨w.heap.size + 1, 1, none⟩) (by simp) _, gl, ⟨cl, rfl⟩, by omega, ?_⟩
      exact (((RowTo.ofOwn HP.out.own (fun j hj => range_get _ _ j hj)).setOther (by simp; omega) _).setOther (by simp; omega) _)
end Go.Proofs.YtpngikmcjkjdaaaGreatDoor
