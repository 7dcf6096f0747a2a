import Derived.Test.YtpngikmcjkjdaaaGreatDoorHeldP
import Derived.Test.YtpngikmcjkjdaaaGreatDoorTableW
namespace Go.Proofs.YtpngikmcjkjdaaaGreatDoor
open Go.RowKit
set_option linter.unusedVariables false

theorem prel_full {M : Tab} (hnx : ∀ i c, i < M.n → c < 8 → M.nxt i c < M.n) : ∀ (k : Nat) (ps : List Nat) (p : Nat), PRel (goodC M) (crS M) ps p → p ≤ 8 * ps.length → 8 * M.n - p ≤ k → ∃ qs, PRel (goodC M) (crS M) qs (8 * qs.length) := by
  intro k
  induction k with
  | zero =>
    intro ps p h hp hk
    have := h.bnd
    exact ⟨ps, by rw [show 8 * ps.length = p by omega]; exact h⟩
  | succ k ih =>
    intro ps p h hp hk
    by_cases he : p = 8 * ps.length
    · exact ⟨ps, by rw [← he]; exact h⟩
    · have hb := h.bnd
      have hlt : p / 8 < ps.length := by omega
      by_cases hq : crS M (ps.getD (p / 8) 0) (p % 8) ∈ ps
      · exact ih ps (p + 1) (h.old hlt hq) (by omega) (by omega)
      · have hg := h.inr _ (getD_mem ps (p / 8) hlt)
        have hn := hnx (ps.getD (p / 8) 0) (p % 8) hg.1 (by omega)
        exact ih _ (p + 1) (h.new hlt hq ⟨by have := cr_le M (M.nxt (ps.getD (p / 8) 0) (p % 8)); show cr M _ < M.n; omega, cr_cr M _⟩) (by simp; omega) (by omega)
theorem least_exists {M : Tab} (hM : M.Ok) : ∃ R, IsLeast R M.accepts ∧ R.n ≤ M.n := by
  have l1 := hM.lo
  have hg0 : goodC M 0 := ⟨by omega, by have := cr_le M 0; omega⟩
  obtain ⟨qs, h⟩ := prel_full hM.nx (8 * M.n) [0] 0 (PRel.start hg0) (by simp) (by omega)
  exact ⟨quotTab M qs, quot_least h, h.bnd⟩
theorem notTab_ok {M : Tab} (h : M.Ok) : (notTab M).Ok := ⟨h.lo, h.hi, h.nx⟩
theorem leastPost_yes {N : Tab} {k : Nat} {w w' : World} {e : Ending} (hN : N.Ok) (h : LeastPost N.accepts 40 k w e w') : Below w.heap.size w w' ∧ ∃ (R : Tab) (V : Lay), IsLeast R N.accepts ∧ R.n ≤ 40 ∧ e = .returned (.tuple #[.agg #[.slice (some ⟨V.ba, V.oa, none⟩) R.n V.ca, .slice (some ⟨V.bn, V.on, none⟩) R.n V.cn], .int .i64 0]) ∧ TabAt w' V R ∧ V.From w.heap.size R.n ∧ Fresh w' V R.n := by
  rcases h with ⟨hb, h | ⟨_, _, h⟩⟩
  · exact ⟨hb, h⟩
  · obtain ⟨R, hR, hl⟩ := least_exists hN
    have := h R hR
    have := hN.hi
    omega

set_option maxRecDepth 20000 in
set_option maxHeartbeats 8000000 in
theorem asked_least (W0 w : World) (bw : Nat) (vts : Value) (hs : List Hd) (hw : WdAt W0 w bw vts hs) (hn : hs.length ≤ 4398046511104) (kind a b c d : Int) (s : ByteArray) (lo : Option Addr) (ll lc : Nat) (t : TL) (A : Nat → Bool) (X : Nat → Nat → Int) (h : TLAt w t A X) (hk : kind = 5 ∨ kind = 6) :
    Calls Tryz.prog 21 #[.pointer (some ⟨bw, 0, none⟩), .agg #[.int .i64 kind, .int .i64 a, .int .i64 b, .int .i64 c, .int .i64 d, .string s, .slice lo ll lc], .agg #[.slice (some ⟨t.ba, 0, none⟩) t.na t.ca, .slice (some ⟨t.bn, 0, none⟩) t.nn t.cn]] w
      (fun e w' => StepPost W0 bw hs.length e w' ∧ Kept bw vts w w') := by
  have g1 := h.na
  have g2 := h.ca
  have g4 := h.nn
  have g5 := h.cn
  obtain ⟨W, hW⟩ : ∃ W, W = (w.alloc (.cells #[.int .i64 kind, .int .i64 a, .int .i64 b, .int .i64 c, .int .i64 d, .string s, .slice lo ll lc] 33)).alloc (.cells #[.slice (some ⟨t.ba, 0, none⟩) t.na t.ca, .slice (some ⟨t.bn, 0, none⟩) t.nn t.cn] 41) := ⟨_, rfl⟩
  have BW : Below w.heap.size w W := by rw [hW]; exact ((Below.refl _ _).alloc (Nat.le_refl _) _).alloc (by simp) _
  have hWs : w.heap.size + 1 < W.heap.size := by rw [hW]; simp
  have b0 : W.heap[w.heap.size]? = some (.cells #[.int .i64 kind, .int .i64 a, .int .i64 b, .int .i64 c, .int .i64 d, .string s, .slice lo ll lc] 33 (0, 0)) := by rw [hW]; exact heap_at_old (heap_at_new rfl)
  have b1 : W.heap[w.heap.size + 1]? = some (.cells #[.slice (some ⟨t.ba, 0, none⟩) t.na t.ca, .slice (some ⟨t.bn, 0, none⟩) t.nn t.cn] 41 (0, 0)) := by rw [hW]; exact heap_at_new (by simp)
  have hR := (h.below BW).raw
  have HC := copied_ok _ _ _ _ _ _ _ _ _ A X W hR (by omega) (by omega) (fun i hi => by have := h.rl i (by omega); have := h.rc i (by omega); omega)
  have hbl : ∀ i, i < t.nn → t.rl i ≤ 9223372036854775807 := fun i hi => by have := h.rl i (by omega); have := h.rc i (by omega); omega
  go_enter Tryz.func21, Tryz.ntmps21
  go_wp2_with fail
  rw [← hW]
  clear hW
  refine Calls.mono HC ?_
  clear HC
  rintro e w1 ⟨hB1, ga, ca', gn, cn', rb, rc, rfl, hC⟩
  have hs1 := hB1.size
  have hR1 := hR.below hB1
  have c0 := (hB1.block _ (by omega)).trans b0
  have c1 := (hB1.block _ (by omega)).trans b1
  rw [lstv_eq, lstv_eq]
  have hM := hC.raw ca' cn' (by omega) (by omega) hbl
  clear b0 b1 hC
  generalize (if t.na = 0 then none else some (⟨ga, 0, none⟩ : Addr)) = ma at hM ⊢
  generalize (if t.nn = 0 then none else some (⟨gn, 0, none⟩ : Addr)) = mn at hM ⊢
  generalize (if t.na = 0 then 0 else ca') = mca at hM ⊢
  generalize (if t.nn = 0 then 0 else cn') = mcn at hM ⊢
  go_upto_region 2 with fail
  obtain ⟨W2, hW2⟩ : ∃ W2, W2 = w1.alloc (.cells #[.slice ma t.na mca, .slice mn t.nn mcn] 41) := ⟨_, rfl⟩
  have hB2 : Below w1.heap.size w1 W2 := by rw [hW2]; exact (Below.refl _ _).alloc (Nat.le_refl _) _
  have hs2 : w1.heap.size < W2.heap.size := by rw [hW2]; simp
  have c2 : W2.heap[w1.heap.size]? = some (.cells #[.slice ma t.na mca, .slice mn t.nn mcn] 41 (0, 0)) := by rw [hW2]; exact heap_at_new rfl
  have d0 := (hB2.block _ (by omega)).trans c0
  have d1 := (hB2.block _ (by omega)).trans c1
  have hR2 := hR1.below hB2
  have hM2 := hM.below hB2
  have BW2 : Below w.heap.size w W2 := (BW.trans (hB1.mono (by omega))).trans (hB2.mono (by omega))
  rw [← hW2]
  clear hW2 c0 c1 hB1 hB2 hR hR1 hM BW h
  have hw2 := hw.below BW2
  obtain ⟨x0, _, _, _, _, x5, _⟩ := cell_seven d0
  obtain ⟨y0, y1, _, _⟩ := cell_two d1
  obtain ⟨z0, z1, _, _⟩ := cell_two c2
  rcases hk with rfl | rfl
  · cases hok : rawOk t.lay X
    · have hok2 := (rawOk_congr (r := ⟨ma, mn, t.na, mca, t.nn, mcn, fun i => if t.rl i = 0 then none else some ⟨rb i, 0, none⟩, t.rl, fun i => if t.rl i = 0 then 0 else rc i⟩) (r' := t.lay) (X := X) rfl rfl rfl).trans hok
      have HC := least_no t.lay A X W2 hR2 hok
      simp only [TL.lay] at HC
      clear hok
      go_wp2_with fail
      refine HC.mono ?_
      clear HC
      rintro e w3 ⟨rfl, hB3⟩
      have hs3 := hB3.size
      go_upto_region 13 with fail
      obtain ⟨W3, hW3⟩ : ∃ W3, W3 = w3.alloc (.cells #[.slice none 0 0, .slice none 0 0] 41) := ⟨_, rfl⟩
      have bW3 : Below w3.heap.size w3 W3 := by rw [hW3]; exact (Below.refl _ _).alloc (Nat.le_refl _) _
      have sW3 : w3.heap.size < W3.heap.size := by rw [hW3]; simp
      have qW3 : W3.heap[w3.heap.size]? = some (.cells #[.slice none 0 0, .slice none 0 0] 41 (0, 0)) := by rw [hW3]; exact heap_at_new rfl
      rw [← hW3]
      clear hW3
      have BA : Below W2.heap.size W2 W3 := hB3.trans (bW3.mono (by omega))
      have HC2 := refLeast_no _ A X W3 (hM2.below BA) hok2
      simp only at HC2
      obtain ⟨z0, z1, _, _⟩ := cell_two ((BA.block _ (by omega)).trans c2)
      clear hok2 x0 x5 y0 y1 hM2 hR2 d0 d1 hB3 bW3
      go_wp2_with fail
      refine HC2.mono ?_
      clear HC2
      rintro e w4 ⟨rfl, hB4⟩
      have hs4 := hB4.size
      go_upto_region 14 with fail
      obtain ⟨W4, hW4⟩ : ∃ W4, W4 = w4.alloc (.cells #[.slice none 0 0, .slice none 0 0] 41) := ⟨_, rfl⟩
      have bW4 : Below w4.heap.size w4 W4 := by rw [hW4]; exact (Below.refl _ _).alloc (Nat.le_refl _) _
      have sW4 : w4.heap.size < W4.heap.size := by rw [hW4]; simp
      have qW4 : W4.heap[w4.heap.size]? = some (.cells #[.slice none 0 0, .slice none 0 0] 41 (0, 0)) := by rw [hW4]; exact heap_at_new rfl
      rw [← hW4]
      clear hW4
      have BC : Below W3.heap.size W3 W4 := hB4.trans (bW4.mono (by omega))
      have BB : Below W2.heap.size W2 W4 := BA.trans (BC.mono (by omega))
      obtain ⟨f0, f1, _, _⟩ := cell_two ((BC.block _ (by omega)).trans qW3)
      obtain ⟨g0, g1, _, _⟩ := cell_two qW4
      have HC3 := table_err bw 6 W4 (by decide)
      clear z0 z1 BC BA hB4 bW4 qW3 qW4
      go_wp2_with fail
      refine HC3.mono ?_
      clear HC3
      rintro e w5 ⟨rfl, hB5⟩
      have HF : Hid (WdAt W0 w5 bw vts hs) := hw2.below (BB.trans (hB5.mono (by omega)))
      have HK : Hid (Kept bw vts w w5) := Kept.from BW2 (Kept.of_below (BB.trans (hB5.mono (by omega))))
      clear hB5 BB f0 f1 g0 g1
      go_wp2_with fail
      go_ret
      exact ⟨⟨rfl, _, _, HF.out, by omega⟩, HK.out⟩
    · have hok2 := (rawOk_congr (r := ⟨ma, mn, t.na, mca, t.nn, mcn, fun i => if t.rl i = 0 then none else some ⟨rb i, 0, none⟩, t.rl, fun i => if t.rl i = 0 then 0 else rc i⟩) (r' := t.lay) (X := X) rfl rfl rfl).trans hok
      obtain ⟨V, eV, hV⟩ := rawTab_at hR2 hok
      have HC := least_ok V _ W2 (rawTab_ok hok) hV
      rw [← eV] at HC
      simp only [RLay.val, TL.lay] at HC
      have HOK : Hid _ := hok
      clear hok eV hV
      go_wp2_with fail
      refine HC.mono ?_
      clear HC
      intro e w3 hp1
      have hok := HOK.out
      obtain ⟨hB3, R, Vr, hR, hR40, rfl, hTr, hFr, hFs⟩ := leastPost_yes (N := (rawTab t.lay A X)) (rawTab_ok hok) hp1
      clear hok hp1
      have hs3 := hB3.size
      go_upto_region 13 with fail
      obtain ⟨W3, hW3⟩ : ∃ W3, W3 = w3.alloc (.cells #[.slice (some ⟨Vr.ba, Vr.oa, none⟩) R.n Vr.ca, .slice (some ⟨Vr.bn, Vr.on, none⟩) R.n Vr.cn] 41) := ⟨_, rfl⟩
      have bW3 : Below w3.heap.size w3 W3 := by rw [hW3]; exact (Below.refl _ _).alloc (Nat.le_refl _) _
      have sW3 : w3.heap.size < W3.heap.size := by rw [hW3]; simp
      have qW3 : W3.heap[w3.heap.size]? = some (.cells #[.slice (some ⟨Vr.ba, Vr.oa, none⟩) R.n Vr.ca, .slice (some ⟨Vr.bn, Vr.on, none⟩) R.n Vr.cn] 41 (0, 0)) := by rw [hW3]; exact heap_at_new rfl
      rw [← hW3]
      clear hW3
      have BA : Below W2.heap.size W2 W3 := hB3.trans (bW3.mono (by omega))
      obtain ⟨V', eV', hV'⟩ := rawTab_at (hM2.below BA) hok2
      have HC2 := refLeast_ok V' _ W3 (rawTab_ok hok2) hV'
      rw [← eV'] at HC2
      simp only [RLay.val] at HC2
      obtain ⟨z0, z1, _, _⟩ := cell_two ((BA.block _ (by omega)).trans c2)
      clear hok2 eV' hV' x0 x5 y0 y1 hM2 hR2 d0 d1 hB3
      go_wp2_with fail
      refine HC2.mono ?_
      clear HC2
      rintro e w4 ⟨hB4, U, Q, hQ, rfl, hU⟩
      have hs4 := hB4.size
      go_upto_region 14 with fail
      obtain ⟨W4, hW4⟩ : ∃ W4, W4 = w4.alloc (.cells #[.slice (some ⟨U.ba, U.oa, none⟩) Q.n U.ca, .slice (some ⟨U.bn, U.on, none⟩) Q.n U.cn] 41) := ⟨_, rfl⟩
      have bW4 : Below w4.heap.size w4 W4 := by rw [hW4]; exact (Below.refl _ _).alloc (Nat.le_refl _) _
      have sW4 : w4.heap.size < W4.heap.size := by rw [hW4]; simp
      have qW4 : W4.heap[w4.heap.size]? = some (.cells #[.slice (some ⟨U.ba, U.oa, none⟩) Q.n U.ca, .slice (some ⟨U.bn, U.on, none⟩) Q.n U.cn] 41 (0, 0)) := by rw [hW4]; exact heap_at_new rfl
      rw [← hW4]
      clear hW4
      have BC : Below W3.heap.size W3 W4 := hB4.trans (bW4.mono (by omega))
      have BB : Below W2.heap.size W2 W4 := BA.trans (BC.mono (by omega))
      have BD : Below w3.heap.size w3 W4 := bW3.trans (BC.mono (by omega))
      obtain ⟨f0, f1, _, _⟩ := cell_two ((BC.block _ (by omega)).trans qW3)
      obtain ⟨g0, g1, _, _⟩ := cell_two qW4
      have hQ2 : IsLeast Q (rawTab t.lay A X).accepts := hQ
      have HC3 := table_ok W0 W2 W4 bw vts hs hw2 BB hn Vr U R Q _ hR hQ2 (hTr.below BD) (hFs.below BD) hFr (hU.below bW4) hR40
      clear z0 z1 BC BA BD hB4 bW4 bW3 qW3 qW4 hQ hQ2 hR hTr hFr hFs hU
      go_wp2_with fail
      refine HC3.mono ?_
      clear HC3
      rintro e w5 ⟨⟨rfl, vts', hs', hW', hl'⟩, hK⟩
      have HF : Hid _ := hW'
      have HK : Hid (Kept bw vts w w5) := Kept.from BW2 hK
      clear hK
      clear hW' f0 f1 g0 g1
      go_wp2_with fail
      go_ret
      exact ⟨⟨rfl, vts', hs', HF.out, hl'⟩, HK.out⟩
  · cases hok : rawOk t.lay X
    · have hok2 := (rawOk_congr (r := ⟨ma, mn, t.na, mca, t.nn, mcn, fun i => if t.rl i = 0 then none else some ⟨rb i, 0, none⟩, t.rl, fun i => if t.rl i = 0 then 0 else rc i⟩) (r' := t.lay) (X := X) rfl rfl rfl).trans hok
      have HC := not_no t.lay A X W2 hR2 hok
      simp only [TL.lay] at HC
      clear hok
      go_wp2_with fail
      refine HC.mono ?_
      clear HC
      rintro e w3 ⟨rfl, hB3⟩
      have hs3 := hB3.size
      go_upto_region 17 with fail
      obtain ⟨W3, hW3⟩ : ∃ W3, W3 = w3.alloc (.cells #[.slice none 0 0, .slice none 0 0] 41) := ⟨_, rfl⟩
      have bW3 : Below w3.heap.size w3 W3 := by rw [hW3]; exact (Below.refl _ _).alloc (Nat.le_refl _) _
      have sW3 : w3.heap.size < W3.heap.size := by rw [hW3]; simp
      have qW3 : W3.heap[w3.heap.size]? = some (.cells #[.slice none 0 0, .slice none 0 0] 41 (0, 0)) := by rw [hW3]; exact heap_at_new rfl
      rw [← hW3]
      clear hW3
      have BA : Below W2.heap.size W2 W3 := hB3.trans (bW3.mono (by omega))
      have HC2 := refNot_no _ A X W3 (hM2.below BA) hok2
      simp only at HC2
      obtain ⟨z0, z1, _, _⟩ := cell_two ((BA.block _ (by omega)).trans c2)
      clear hok2 x0 x5 y0 y1 hM2 hR2 d0 d1 hB3 bW3
      go_wp2_with fail
      refine HC2.mono ?_
      clear HC2
      rintro e w4 ⟨rfl, hB4⟩
      have hs4 := hB4.size
      go_upto_region 18 with fail
      obtain ⟨W4, hW4⟩ : ∃ W4, W4 = w4.alloc (.cells #[.slice none 0 0, .slice none 0 0] 41) := ⟨_, rfl⟩
      have bW4 : Below w4.heap.size w4 W4 := by rw [hW4]; exact (Below.refl _ _).alloc (Nat.le_refl _) _
      have sW4 : w4.heap.size < W4.heap.size := by rw [hW4]; simp
      have qW4 : W4.heap[w4.heap.size]? = some (.cells #[.slice none 0 0, .slice none 0 0] 41 (0, 0)) := by rw [hW4]; exact heap_at_new rfl
      rw [← hW4]
      clear hW4
      have BC : Below W3.heap.size W3 W4 := hB4.trans (bW4.mono (by omega))
      have BB : Below W2.heap.size W2 W4 := BA.trans (BC.mono (by omega))
      obtain ⟨f0, f1, _, _⟩ := cell_two ((BC.block _ (by omega)).trans qW3)
      obtain ⟨g0, g1, _, _⟩ := cell_two qW4
      have HC3 := table_err bw 6 W4 (by decide)
      clear z0 z1 BC BA hB4 bW4 qW3 qW4
      go_wp2_with fail
      refine HC3.mono ?_
      clear HC3
      rintro e w5 ⟨rfl, hB5⟩
      have HF : Hid (WdAt W0 w5 bw vts hs) := hw2.below (BB.trans (hB5.mono (by omega)))
      have HK : Hid (Kept bw vts w w5) := Kept.from BW2 (Kept.of_below (BB.trans (hB5.mono (by omega))))
      clear hB5 BB f0 f1 g0 g1
      go_wp2_with fail
      go_ret
      exact ⟨⟨rfl, _, _, HF.out, by omega⟩, HK.out⟩
    · have hok2 := (rawOk_congr (r := ⟨ma, mn, t.na, mca, t.nn, mcn, fun i => if t.rl i = 0 then none else some ⟨rb i, 0, none⟩, t.rl, fun i => if t.rl i = 0 then 0 else rc i⟩) (r' := t.lay) (X := X) rfl rfl rfl).trans hok
      obtain ⟨V, eV, hV⟩ := rawTab_at hR2 hok
      have HC := not_ok V _ W2 (rawTab_ok hok) hV
      rw [← eV] at HC
      simp only [RLay.val, TL.lay] at HC
      have HOK : Hid _ := hok
      clear hok eV hV
      go_wp2_with fail
      refine HC.mono ?_
      clear HC
      intro e w3 hp1
      have hok := HOK.out
      obtain ⟨hB3, R, Vr, hR, hR40, rfl, hTr, hFr, hFs⟩ := leastPost_yes (N := (notTab (rawTab t.lay A X))) (notTab_ok (rawTab_ok hok)) hp1
      clear hok hp1
      have hs3 := hB3.size
      go_upto_region 17 with fail
      obtain ⟨W3, hW3⟩ : ∃ W3, W3 = w3.alloc (.cells #[.slice (some ⟨Vr.ba, Vr.oa, none⟩) R.n Vr.ca, .slice (some ⟨Vr.bn, Vr.on, none⟩) R.n Vr.cn] 41) := ⟨_, rfl⟩
      have bW3 : Below w3.heap.size w3 W3 := by rw [hW3]; exact (Below.refl _ _).alloc (Nat.le_refl _) _
      have sW3 : w3.heap.size < W3.heap.size := by rw [hW3]; simp
      have qW3 : W3.heap[w3.heap.size]? = some (.cells #[.slice (some ⟨Vr.ba, Vr.oa, none⟩) R.n Vr.ca, .slice (some ⟨Vr.bn, Vr.on, none⟩) R.n Vr.cn] 41 (0, 0)) := by rw [hW3]; exact heap_at_new rfl
      rw [← hW3]
      clear hW3
      have BA : Below W2.heap.size W2 W3 := hB3.trans (bW3.mono (by omega))
      obtain ⟨V', eV', hV'⟩ := rawTab_at (hM2.below BA) hok2
      have HC2 := refNot_ok V' _ W3 (rawTab_ok hok2) hV'
      rw [← eV'] at HC2
      simp only [RLay.val] at HC2
      obtain ⟨z0, z1, _, _⟩ := cell_two ((BA.block _ (by omega)).trans c2)
      clear hok2 eV' hV' x0 x5 y0 y1 hM2 hR2 d0 d1 hB3
      go_wp2_with fail
      refine HC2.mono ?_
      clear HC2
      rintro e w4 ⟨hB4, U, Q, hQ, rfl, hU⟩
      have hs4 := hB4.size
      go_upto_region 18 with fail
      obtain ⟨W4, hW4⟩ : ∃ W4, W4 = w4.alloc (.cells #[.slice (some ⟨U.ba, U.oa, none⟩) Q.n U.ca, .slice (some ⟨U.bn, U.on, none⟩) Q.n U.cn] 41) := ⟨_, rfl⟩
      have bW4 : Below w4.heap.size w4 W4 := by rw [hW4]; exact (Below.refl _ _).alloc (Nat.le_refl _) _
      have sW4 : w4.heap.size < W4.heap.size := by rw [hW4]; simp
      have qW4 : W4.heap[w4.heap.size]? = some (.cells #[.slice (some ⟨U.ba, U.oa, none⟩) Q.n U.ca, .slice (some ⟨U.bn, U.on, none⟩) Q.n U.cn] 41 (0, 0)) := by rw [hW4]; exact heap_at_new rfl
      rw [← hW4]
      clear hW4
      have BC : Below W3.heap.size W3 W4 := hB4.trans (bW4.mono (by omega))
      have BB : Below W2.heap.size W2 W4 := BA.trans (BC.mono (by omega))
      have BD : Below w3.heap.size w3 W4 := bW3.trans (BC.mono (by omega))
      obtain ⟨f0, f1, _, _⟩ := cell_two ((BC.block _ (by omega)).trans qW3)
      obtain ⟨g0, g1, _, _⟩ := cell_two qW4
      have hQ2 : IsLeast Q (notTab (rawTab t.lay A X)).accepts := hQ
      have HC3 := table_ok W0 W2 W4 bw vts hs hw2 BB hn Vr U R Q _ hR hQ2 (hTr.below BD) (hFs.below BD) hFr (hU.below bW4) hR40
      clear z0 z1 BC BA BD hB4 bW4 bW3 qW3 qW4 hQ hQ2 hR hTr hFr hFs hU
      go_wp2_with fail
      refine HC3.mono ?_
      clear HC3
      rintro e w5 ⟨⟨rfl, vts', hs', hW', hl'⟩, hK⟩
      have HF : Hid _ := hW'
      have HK : Hid (Kept bw vts w w5) := Kept.from BW2 hK
      clear hK
      clear hW' f0 f1 g0 g1
      go_wp2_with fail
      go_ret
      exact ⟨⟨rfl, vts', hs', HF.out, hl'⟩, HK.out⟩
end Go.Proofs.YtpngikmcjkjdaaaGreatDoor
