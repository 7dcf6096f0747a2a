import Derived.Test.YtpngikmcjkjdaaaGreatDoorRefLeast
import Derived.Test.YtpngikmcjkjdaaaGreatDoorRawRef
namespace Go.Proofs.YtpngikmcjkjdaaaGreatDoor
open Go.RowKit
set_option linter.unusedVariables false

/-- What the reference's Least and Not answer. -/
def RLPost (L : List Nat → Bool) (w : World) (e : Ending) (w' : World) : Prop :=
  Below w.heap.size w w' ∧ ∃ (U : Lay) (R : Tab), IsLeast R L ∧ e = .returned (.tuple #[.agg #[.slice (some ⟨U.ba, U.oa, none⟩) R.n U.ca, .slice (some ⟨U.bn, U.on, none⟩) R.n U.cn], .int .i64 0]) ∧ TabAt w' U R

set_option maxRecDepth 20000 in
set_option maxHeartbeats 2000000 in
theorem refLeast_ok (V : Lay) (M : Tab) (w : World) (hM : M.Ok) (hV : TabAt w V M) :
    Calls Tryz.prog 37 #[.agg #[.slice (some ⟨V.ba, V.oa, none⟩) M.n V.ca, .slice (some ⟨V.bn, V.on, none⟩) M.n V.cn]] w (RLPost M.accepts w) := by
  have l1 := hM.lo
  have l2 := hM.hi
  obtain ⟨W, hW⟩ : ∃ W, W = (w.alloc (.cells #[.slice (some ⟨V.ba, V.oa, none⟩) M.n V.ca, .slice (some ⟨V.bn, V.on, none⟩) M.n V.cn] 41)).alloc (.cells #[.slice none 0 0, .slice none 0 0] 41) := ⟨_, rfl⟩
  have BW : Below w.heap.size w W := by rw [hW]; exact ((Below.refl _ _).alloc (Nat.le_refl _) _).alloc (by simp) _
  have hWs : w.heap.size + 1 < W.heap.size := by rw [hW]; simp
  have b0 : W.heap[w.heap.size]? = some (.cells #[.slice (some ⟨V.ba, V.oa, none⟩) M.n V.ca, .slice (some ⟨V.bn, V.on, none⟩) M.n V.cn] 41 (0, 0)) := by rw [hW]; exact heap_at_old (heap_at_new (by simp))
  have b1 : W.heap[w.heap.size + 1]? = some (.cells #[.slice none 0 0, .slice none 0 0] 41 (0, 0)) := by rw [hW]; exact heap_at_new (by simp)
  have hV0 := hV.below BW
  obtain ⟨x0, x1, _, _⟩ := cell_two b0
  go_enter Tryz.func37, Tryz.ntmps37
  go_wp2_with fail
  rw [← hW]
  clear hW
  refine (isTable_ok V M W hM hV0).mono ?_
  rintro e w1 ⟨rfl, hB1⟩
  have hs1 := hB1.size
  have c0 := (hB1.block _ (by omega)).trans b0
  have c1 := (hB1.block _ (by omega)).trans b1
  have HC := rleast_ok V M w1 l1 (by omega) hM.nx (hV0.below hB1)
  have BW1 : Below w.heap.size w w1 := BW.trans (hB1.mono (by omega))
  clear x0 x1 b0 b1 hB1 BW hV0
  obtain ⟨x0, x1, _, _⟩ := cell_two c0
  go_wp2_with fail
  refine HC.mono ?_
  clear HC
  rintro e w2 ⟨hB2, U, R, hR, rfl, hT, hF⟩
  have hs2 := hB2.size
  have d1 := (hB2.block _ (by omega)).trans c1
  have BW2 : Below w.heap.size w w2 := BW1.trans (hB2.mono (by omega))
  obtain ⟨q0, q1, p0, p1⟩ := cell_two d1
  have HR : Hid _ := hR
  have HT : Hid _ := hT
  clear hR hT hB2 x0 x1 c0 c1
  have hsa : w.heap.size + 1 < w2.heap.size := by omega
  go_wp2_with fail
  obtain ⟨r1, r2⟩ := res_alloc (u := .slice (some ⟨U.ba, U.oa, none⟩) R.n U.ca) (v := .slice (some ⟨U.bn, U.on, none⟩) R.n U.cn) d1 (.cells #[.slice (some ⟨U.ba, U.oa, none⟩) R.n U.ca, .slice (some ⟨U.bn, U.on, none⟩) R.n U.cn] 41)
  refine bodyPost_ret (v := .tuple #[.agg #[.slice (some ⟨U.ba, U.oa, none⟩) R.n U.ca, .slice (some ⟨U.bn, U.on, none⟩) R.n U.cn], .int .i64 0]) (by simp [results, Tryz.results37, go_sem, r1, r2]) rfl ?_
  exact ⟨(below_res BW2 (b := w.heap.size + 1) (by omega) _ _).alloc (by simp; omega) _, U, R, HR.out, rfl, (HT.out.res hF (b := w.heap.size + 1) (by omega) _ _).below ((Below.refl _ _).alloc (Nat.le_refl _) _)⟩

set_option maxRecDepth 20000 in
set_option maxHeartbeats 1000000 in
theorem refLeast_no (r : RLay) (A : Nat → Bool) (X : Nat → Nat → Int) (w : World) (h : RawAt w r A X) (hok : rawOk r X = false) :
    Calls Tryz.prog 37 #[.agg #[.slice r.aa r.na r.ca, .slice r.an r.nn r.cn]] w
      fun e w' => e = .returned (.tuple #[.agg #[.slice none 0 0, .slice none 0 0], .int .i64 6]) ∧ Below w.heap.size w w' := by
  obtain ⟨W, hW⟩ : ∃ W, W = (w.alloc (.cells #[.slice r.aa r.na r.ca, .slice r.an r.nn r.cn] 41)).alloc (.cells #[.slice none 0 0, .slice none 0 0] 41) := ⟨_, rfl⟩
  have BW : Below w.heap.size w W := by rw [hW]; exact ((Below.refl _ _).alloc (Nat.le_refl _) _).alloc (by simp) _
  have hWs : w.heap.size + 1 < W.heap.size := by rw [hW]; simp
  have b1 : W.heap[w.heap.size + 1]? = some (.cells #[.slice none 0 0, .slice none 0 0] 41 (0, 0)) := by rw [hW]; exact heap_at_new (by simp)
  have HV := isTable_any r A X W (h.below BW)
  rw [hok] at HV
  clear h hok
  go_enter Tryz.func37, Tryz.ntmps37
  go_wp2_with fail
  rw [← hW]
  clear hW
  refine HV.mono ?_
  rintro e w1 ⟨rfl, hb1⟩
  have c1 := (hb1.block _ (by omega)).trans b1
  have B2 : Below w.heap.size w w1 := BW.trans (hb1.mono (by omega))
  obtain ⟨q0, q1, p0, p1⟩ := cell_two c1
  have HF : Hid _ := below_res B2 (b := w.heap.size + 1) (by omega) (.slice none 0 0) (.slice none 0 0)
  clear HV hb1 b1
  go_wp2_with fail
  obtain ⟨_, r2, r1⟩ := res_two (u := .slice none 0 0) (v := .slice none 0 0) c1
  refine bodyPost_ret (v := .tuple #[.agg #[.slice none 0 0, .slice none 0 0], .int .i64 6]) (by simp [results, Tryz.results37, go_sem, r1, r2]) rfl ?_
  exact ⟨rfl, HF.out⟩

set_option maxRecDepth 20000 in
set_option maxHeartbeats 1000000 in
theorem refNot_no (r : RLay) (A : Nat → Bool) (X : Nat → Nat → Int) (w : World) (h : RawAt w r A X) (hok : rawOk r X = false) :
    Calls Tryz.prog 39 #[.agg #[.slice r.aa r.na r.ca, .slice r.an r.nn r.cn]] w
      fun e w' => e = .returned (.tuple #[.agg #[.slice none 0 0, .slice none 0 0], .int .i64 6]) ∧ Below w.heap.size w w' := by
  obtain ⟨W, hW⟩ : ∃ W, W = (w.alloc (.cells #[.slice r.aa r.na r.ca, .slice r.an r.nn r.cn] 41)).alloc (.cells #[.slice none 0 0, .slice none 0 0] 41) := ⟨_, rfl⟩
  have BW : Below w.heap.size w W := by rw [hW]; exact ((Below.refl _ _).alloc (Nat.le_refl _) _).alloc (by simp) _
  have hWs : w.heap.size + 1 < W.heap.size := by rw [hW]; simp
  have b1 : W.heap[w.heap.size + 1]? = some (.cells #[.slice none 0 0, .slice none 0 0] 41 (0, 0)) := by rw [hW]; exact heap_at_new (by simp)
  have HV := isTable_any r A X W (h.below BW)
  rw [hok] at HV
  clear h hok
  go_enter Tryz.func39, Tryz.ntmps39
  go_wp2_with fail
  rw [← hW]
  clear hW
  refine HV.mono ?_
  rintro e w1 ⟨rfl, hb1⟩
  have c1 := (hb1.block _ (by omega)).trans b1
  have B2 : Below w.heap.size w w1 := BW.trans (hb1.mono (by omega))
  obtain ⟨q0, q1, p0, p1⟩ := cell_two c1
  have HF : Hid _ := below_res B2 (b := w.heap.size + 1) (by omega) (.slice none 0 0) (.slice none 0 0)
  clear HV hb1 b1
  go_wp2_with fail
  obtain ⟨_, r2, r1⟩ := res_two (u := .slice none 0 0) (v := .slice none 0 0) c1
  refine bodyPost_ret (v := .tuple #[.agg #[.slice none 0 0, .slice none 0 0], .int .i64 6]) (by simp [results, Tryz.results39, go_sem, r1, r2]) rfl ?_
  exact ⟨rfl, HF.out⟩

def notTab (M : Tab) : Tab := ⟨M.n, fun i => !M.acc i, M.nxt⟩
theorem notTab_accepts (M : Tab) (x : List Nat) : (notTab M).accepts x = !M.accepts x := rfl
/-- The memory of Not's loop. -/
structure NotMem (W : World) (b : Nat) (w : World) (va vn : Value) (k : Nat) (A : Nat → Bool) : Prop where
  blw : Below b W w
  blk : w.heap[b]? = some (.cells #[va, vn] 41 (0, 0))
  own : w.ownsRow (b + 1) 4 1 va k (acells A k)
theorem NotMem.below {W w w2 : World} {b k : Nat} {va vn : Value} {A : Nat → Bool} (h : NotMem W b w va vn k A) (hb : Below w.heap.size w w2) : NotMem W b w2 va vn k A :=
  ⟨h.blw.trans (hb.mono (by have := heap_lt h.blk; omega)), by rw [hb.block _ (heap_lt h.blk)]; exact h.blk, ownsRow_below h.own hb⟩
theorem NotMem.app {W w w2 : World} {b k : Nat} {va vn : Value} {A : Nat → Bool} (h : NotMem W b w va vn k A) {g cap : Nat} (hown : w2.ownsRow (b + 1) 4 1 (.slice (some ⟨g, 0, none⟩) (k + 1) cap) (k + 1) (acells A k ++ [.bool (A k)])) (hg : w.grownBy w2 va.ownBlock) :
    w2.heap[b]? = some (.cells #[va, vn] 41 (0, 0)) ∧ NotMem W b (w2.setCell ⟨b, 0, none⟩ (.slice (some ⟨g, 0, none⟩) (k + 1) cap)) (.slice (some ⟨g, 0, none⟩) (k + 1) cap) vn (k + 1) A := by
  have hs := heap_lt h.blk
  have hlt := fun x e => h.own.lt x e
  have hblk : w2.heap[b]? = some (.cells #[va, vn] 41 (0, 0)) := by
    rw [hg.block _ hs (fun e => by have := (hlt _ e.symm).1; omega)]; exact h.blk
  exact ⟨hblk, (h.blw.grown hg (by omega) (fun x e => by have := (hlt x e).1; omega)).setCell (p := ⟨b, 0, none⟩) (Nat.le_refl _) _, two_set0 hblk, ownsRow_setCell_below hown (by simp) _⟩

set_option maxRecDepth 20000 in
set_option maxHeartbeats 2000000 in
theorem refNot_ok (V : Lay) (M : Tab) (w : World) (hM : M.Ok) (hV : TabAt w V M) :
    Calls Tryz.prog 39 #[.agg #[.slice (some ⟨V.ba, V.oa, none⟩) M.n V.ca, .slice (some ⟨V.bn, V.on, none⟩) M.n V.cn]] w (RLPost (fun x => !M.accepts x) w) := by
  obtain ⟨i4, hi4, hz4, hz41, hz42⟩ := info_parts Tryz.info4
  have l1 := hM.lo
  have l2 := hM.hi
  obtain ⟨W, hW⟩ : ∃ W, W = (w.alloc (.cells #[.slice (some ⟨V.ba, V.oa, none⟩) M.n V.ca, .slice (some ⟨V.bn, V.on, none⟩) M.n V.cn] 41)).alloc (.cells #[.slice none 0 0, .slice none 0 0] 41) := ⟨_, rfl⟩
  have BW : Below w.heap.size w W := by rw [hW]; exact ((Below.refl _ _).alloc (Nat.le_refl _) _).alloc (by simp) _
  have hWs : w.heap.size + 1 < W.heap.size := by rw [hW]; simp
  have b0 : W.heap[w.heap.size]? = some (.cells #[.slice (some ⟨V.ba, V.oa, none⟩) M.n V.ca, .slice (some ⟨V.bn, V.on, none⟩) M.n V.cn] 41 (0, 0)) := by rw [hW]; exact heap_at_old (heap_at_new (by simp))
  have b1 : W.heap[w.heap.size + 1]? = some (.cells #[.slice none 0 0, .slice none 0 0] 41 (0, 0)) := by rw [hW]; exact heap_at_new (by simp)
  have hV0 := hV.below BW
  obtain ⟨x0, x1, _, _⟩ := cell_two b0
  go_enter Tryz.func39, Tryz.ntmps39
  go_wp2_with fail
  rw [← hW]
  clear hW
  refine (isTable_ok V M W hM hV0).mono ?_
  rintro e w1 ⟨rfl, hB1⟩
  have hs1 := hB1.size
  have c0 := (hB1.block _ (by omega)).trans b0
  have c1 := (hB1.block _ (by omega)).trans b1
  have BW1 : Below w.heap.size w w1 := BW.trans (hB1.mono (by omega))
  clear x0 x1 b0 b1 hB1 BW hV0
  obtain ⟨x0, x1, _, _⟩ := cell_two c0
  go_upto_region 5 with fail
  obtain ⟨W2, hW2⟩ : ∃ W2, W2 = w1.alloc (.cells #[.slice none 0 0, .slice none 0 0] 41) := ⟨_, rfl⟩
  have hB2 : Below w1.heap.size w1 W2 := by rw [hW2]; exact (Below.refl _ _).alloc (Nat.le_refl _) _
  have hs2 : w1.heap.size < W2.heap.size := by rw [hW2]; simp
  have d0 : W2.heap[w1.heap.size]? = some (.cells #[.slice none 0 0, .slice none 0 0] 41 (0, 0)) := by rw [hW2]; exact heap_at_new rfl
  have d1 := (hB2.block _ (by omega)).trans c0
  have d2 := (hB2.block _ (by omega)).trans c1
  have BW2 : Below w.heap.size w W2 := BW1.trans (hB2.mono (by omega))
  rw [← hW2]
  clear hW2 c0 c1 x0 x1 hB2
  obtain ⟨x0, x1, _, _⟩ := cell_two d1
  obtain ⟨y0, y1, z0, z1⟩ := cell_two d0
  have P0 : NotMem W2 w1.heap.size (W2.setCell ⟨w1.heap.size, 1, none⟩ (.slice (some ⟨V.bn, V.on, none⟩) M.n V.cn)) (.slice none 0 0) (.slice (some ⟨V.bn, V.on, none⟩) M.n V.cn) 0 (fun i => !M.acc i) :=
    ⟨(Below.refl _ _).setCell (p := ⟨w1.heap.size, 1, none⟩) (Nat.le_refl _) _, two_set1 d0, World.ownsRow_nil _ _ _ _⟩
  go_wp2_with fail
  clear x0 x1 y0 y1 z0 z1 d0
  go_loopw [6] (fun k' wr => ∃ (k : Nat) (va : Value), k ≤ M.n ∧ k' = .int .i64 k ∧ NotMem W2 w1.heap.size wr va (.slice (some ⟨V.bn, V.on, none⟩) M.n V.cn) k (fun i => !M.acc i)) (fun k' _ => M.n - (intOf k').toNat)
  case atStart => exact ⟨0, _, by omega, rfl, P0⟩
  case round =>
    obtain ⟨k, va, hk, rfl, hP⟩ := hrel
    clear P0
    have hbw : Below w.heap.size w wr := BW2.trans (hP.blw.mono (by omega))
    obtain ⟨x0, x1, _, _⟩ := cell_two ((hP.blw.block _ (by omega)).trans d1)
    obtain ⟨y0, y1, z0, z1⟩ := cell_two hP.blk
    have hszb := heap_lt hP.blk
    by_cases hlt : k < M.n
    · have a0 := (hV.below hbw).acc k hlt
      obtain ⟨bb, HBB⟩ : ∃ x, Hid (M.acc k = x) := ⟨_, rfl⟩
      rw [HBB.out] at a0
      have HPa : Hid (NotMem W2 w1.heap.size ((wr.alloc (.cells #[.bool (!bb)] 4)).drew) va (.slice (some ⟨V.bn, V.on, none⟩) M.n V.cn) k (fun i => !M.acc i)) := hP.below (((Below.refl _ _).alloc (Nat.le_refl _) _).drew)
      have hna := HPa.out.own
      have HACC : Hid (∀ (g cap' : Nat) (w2 : World), w2.ownsRow (w1.heap.size + 1) 4 1 (.slice (some ⟨g, 0, none⟩) (k + 1) cap') (k + 1) (acells (fun i => !M.acc i) k ++ [.bool (!bb)]) → ((wr.alloc (.cells #[.bool (!bb)] 4)).drew).grownBy w2 va.ownBlock →
          w2.heap[w1.heap.size]? = some (.cells #[va, .slice (some ⟨V.bn, V.on, none⟩) M.n V.cn] 41 (0, 0)) ∧ NotMem W2 w1.heap.size (w2.setCell ⟨w1.heap.size, 0, none⟩ (.slice (some ⟨g, 0, none⟩) (k + 1) cap')) (.slice (some ⟨g, 0, none⟩) (k + 1) cap') (.slice (some ⟨V.bn, V.on, none⟩) M.n V.cn) (k + 1) (fun i => !M.acc i)) := by
        intro g cap' w2 ho hg
        rw [← HBB.out] at ho
        exact HPa.out.app ho hg
      clear hP hbw
      go_upto_region 9 with fail
      go_region_law
          ((refine step_append_lies _ (by rfl) _ _ _ (by rfl) (w1.heap.size + 1) 4 i4 (.bool false) 1 1 Tryz.underlying38 hi4 hz4 hz41 hz42 rfl (by decide) va k (acells (fun i => !M.acc i) k) (by rfl) hna ⟨wr.heap.size, 0, none⟩ 1 1 [.bool (!bb)] (by rfl) (by rfl) (cell_one_new _ _ _) (by intro u hu; simp at hu; subst hu; rfl) (by decide) (by unfold maxLen; omega) (by omega) (by simp; omega) (wr.heap.size + 1) (by simp) ?_; intro g cap' w2 hown hgr hfr hlt2; obtain ⟨f0', f1', f2', f3'⟩ := cell_two (HACC.out g cap' w2 hown hgr).1; clear hfr))
      all_goals
        have HP' : Hid _ := (HACC.out g cap' w2 hown hgr).2
        clear HACC HPa hna x0 x1 y0 y1 z0 z1 a0
        go_wp2_with fail
        go_roundw
        case rel => exact ⟨k + 1, _, by omega, by go_num, HP'.out⟩
        case measure => simp [intOf]; omega
    · have he : k = M.n := by omega
      subst he
      obtain ⟨aa, ca, rfl, haa⟩ := ownsRow_shape hP.own
      obtain ⟨ga, rfl, hca⟩ := haa (by omega)
      have hVN : TabAt wr ⟨ga, 0, ca, V.bn, V.on, V.cn, V.rb, V.ro, V.rc⟩ (notTab M) := by
        refine ⟨fun i hi => ?_, fun i hi => (hV.below hbw).row i hi, fun i c hi hc => (hV.below hbw).cel i c hi hc⟩
        have hi' : i < M.n := hi
        simp only [Nat.zero_add]
        rw [hca i (by omega), acells_at _ _ _ hi']; rfl
      have HC := rleast_ok ⟨ga, 0, ca, V.bn, V.on, V.cn, V.rb, V.ro, V.rc⟩ (notTab M) wr l1 (by show M.n ≤ 100000000; omega) hM.nx hVN
      have hn : (notTab M).n = M.n := rfl
      rw [hn] at HC
      simp only at HC
      have e2 := (hP.blw.block _ (by omega)).trans d2
      have HB : Hid _ := hbw
      clear hP haa hca hVN hbw
      go_wp2_with fail
      refine HC.mono ?_
      clear HC
      rintro e w3 ⟨hB3, U, R, hR, rfl, hT, hF⟩
      have hs3 := hB3.size
      have e3 := (hB3.block _ (by omega)).trans e2
      have BW3 : Below w.heap.size w w3 := HB.out.trans (hB3.mono (by omega))
      obtain ⟨q0, q1, p0, p1⟩ := cell_two e3
      have HR : Hid _ := hR
      have HT : Hid _ := hT
      clear hR hT hB3 x0 x1 y0 y1 z0 z1
      have hsa : w.heap.size + 1 < w3.heap.size := by omega
      go_wp2_with fail
      obtain ⟨r1, r2⟩ := res_alloc (u := .slice (some ⟨U.ba, U.oa, none⟩) R.n U.ca) (v := .slice (some ⟨U.bn, U.on, none⟩) R.n U.cn) e3 (.cells #[.slice (some ⟨U.ba, U.oa, none⟩) R.n U.ca, .slice (some ⟨U.bn, U.on, none⟩) R.n U.cn] 41)
      refine bodyPost_ret (v := .tuple #[.agg #[.slice (some ⟨U.ba, U.oa, none⟩) R.n U.ca, .slice (some ⟨U.bn, U.on, none⟩) R.n U.cn], .int .i64 0]) (by simp [results, Tryz.results39, go_sem, r1, r2]) rfl ?_
      exact ⟨(below_res BW3 (b := w.heap.size + 1) (by omega) _ _).alloc (by simp; omega) _, U, R, HR.out, rfl, (HT.out.res hF (b := w.heap.size + 1) (by omega) _ _).below ((Below.refl _ _).alloc (Nat.le_refl _) _)⟩
end Go.Proofs.YtpngikmcjkjdaaaGreatDoor
