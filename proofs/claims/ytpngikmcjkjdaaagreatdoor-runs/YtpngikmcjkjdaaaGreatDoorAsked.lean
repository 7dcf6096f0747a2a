import Derived.Test.YtpngikmcjkjdaaaGreatDoorHeldP
import Derived.Test.YtpngikmcjkjdaaaGreatDoorRunAny
import Derived.Test.YtpngikmcjkjdaaaGreatDoorRefFirst
import Derived.Test.YtpngikmcjkjdaaaGreatDoorFirstNo
namespace Go.Proofs.YtpngikmcjkjdaaaGreatDoor
open Go.RowKit
set_option linter.unusedVariables false

theorem runAns_congr {r r' : RLay} {A : Nat → Bool} {X : Nat → Nat → Int} {s : ByteArray} (h1 : r.na = r'.na) (h2 : r.nn = r'.nn) (h3 : r.rl = r'.rl) : runAns r A X s = runAns r' A X s := by
  simp only [runAns, rawOk_congr h1 h2 h3, rawTab, h2]
theorem FirstPost.shape {M : Tab} {w w' : World} {e : Ending} (h : FirstPost M w e w') : ∃ (s : ByteArray) (b : Bool), e = .returned (.tuple #[.string s, .bool b, .int .i64 0]) := by
  rcases h.2 with ⟨s, rfl, _⟩ | ⟨rfl, _⟩
  · exact ⟨s, true, rfl⟩
  · exact ⟨_, false, rfl⟩

set_option maxRecDepth 20000 in
set_option maxHeartbeats 4000000 in
theorem asked_run (bw : Nat) (kind a b c d : Int) (s : ByteArray) (lo : Option Addr) (ll lc : Nat) (t : TL) (A : Nat → Bool) (X : Nat → Nat → Int) (w : World) (h : TLAt w t A X) (hs : s.size ≤ maxLen) (hk : kind = 3 ∨ kind = 4) :
    Calls Tryz.prog 21 #[.pointer (some ⟨bw, 0, none⟩), .agg #[.int .i64 kind, .int .i64 a, .int .i64 b, .int .i64 c, .int .i64 d, .string s, .slice lo ll lc], .agg #[.slice (some ⟨t.ba, 0, none⟩) t.na t.ca, .slice (some ⟨t.bn, 0, none⟩) t.nn t.cn]] w
      fun e w' => e = .returned (.bool true) ∧ Below w.heap.size w w' := by
  have g1 := h.na
  have g2 := h.ca
  have g4 := h.nn
  have g5 := h.cn
  obtain ⟨W, hW⟩ : ∃ W, W = (w.alloc (.cells #[.int .i64 kind, .int .i64 a, .int .i64 b, .int .i64 c, .int .i64 d, .string s, .slice lo ll lc] 33)).alloc (.cells #[.slice (some ⟨t.ba, 0, none⟩) t.na t.ca, .slice (some ⟨t.bn, 0, none⟩) t.nn t.cn] 41) := ⟨_, rfl⟩
  have BW : Below w.heap.size w W := by rw [hW]; exact ((Below.refl _ _).alloc (Nat.le_refl _) _).alloc (by simp) _
  have hWs : w.heap.size + 1 < W.heap.size := by rw [hW]; simp
  have b0 : W.heap[w.heap.size]? = some (.cells #[.int .i64 kind, .int .i64 a, .int .i64 b, .int .i64 c, .int .i64 d, .string s, .slice lo ll lc] 33 (0, 0)) := by rw [hW]; exact heap_at_old (heap_at_new rfl)
  have b1 : W.heap[w.heap.size + 1]? = some (.cells #[.slice (some ⟨t.ba, 0, none⟩) t.na t.ca, .slice (some ⟨t.bn, 0, none⟩) t.nn t.cn] 41 (0, 0)) := by rw [hW]; exact heap_at_new (by simp)
  have hR := (h.below BW).raw
  have HC := copied_ok _ _ _ _ _ _ _ _ _ A X W hR (by omega) (by omega) (fun i hi => by have := h.rl i (by omega); have := h.rc i (by omega); omega)
  have hbl : ∀ i, i < t.nn → t.rl i ≤ 9223372036854775807 := fun i hi => by have := h.rl i (by omega); have := h.rc i (by omega); omega
  go_enter Tryz.func21, Tryz.ntmps21
  go_wp2_with fail
  rw [← hW]
  clear hW
  refine Calls.mono HC ?_
  clear HC
  rintro e w1 ⟨hB1, ga, ca', gn, cn', rb, rc, rfl, hC⟩
  have hs1 := hB1.size
  have hR1 := hR.below hB1
  have c0 := (hB1.block _ (by omega)).trans b0
  have c1 := (hB1.block _ (by omega)).trans b1
  rw [lstv_eq, lstv_eq]
  have hM := hC.raw ca' cn' (by omega) (by omega) hbl
  clear b0 b1 hC
  generalize (if t.na = 0 then none else some (⟨ga, 0, none⟩ : Addr)) = ma at hM ⊢
  generalize (if t.nn = 0 then none else some (⟨gn, 0, none⟩ : Addr)) = mn at hM ⊢
  generalize (if t.na = 0 then 0 else ca') = mca at hM ⊢
  generalize (if t.nn = 0 then 0 else cn') = mcn at hM ⊢
  go_upto_region 2 with fail
  obtain ⟨W2, hW2⟩ : ∃ W2, W2 = w1.alloc (.cells #[.slice ma t.na mca, .slice mn t.nn mcn] 41) := ⟨_, rfl⟩
  have hB2 : Below w1.heap.size w1 W2 := by rw [hW2]; exact (Below.refl _ _).alloc (Nat.le_refl _) _
  have hs2 : w1.heap.size < W2.heap.size := by rw [hW2]; simp
  have c2 : W2.heap[w1.heap.size]? = some (.cells #[.slice ma t.na mca, .slice mn t.nn mcn] 41 (0, 0)) := by rw [hW2]; exact heap_at_new rfl
  have d0 := (hB2.block _ (by omega)).trans c0
  have d1 := (hB2.block _ (by omega)).trans c1
  have hR2 := hR1.below hB2
  have hM2 := hM.below hB2
  have BW2 : Below w.heap.size w W2 := (BW.trans (hB1.mono (by omega))).trans (hB2.mono (by omega))
  rw [← hW2]
  clear hW2 c0 c1 hB1 hB2 hR hR1 hM BW h
  obtain ⟨x0, _, _, _, _, x5, _⟩ := cell_seven d0
  obtain ⟨y0, y1, _, _⟩ := cell_two d1
  obtain ⟨z0, z1, _, _⟩ := cell_two c2
  rcases hk with rfl | rfl
  · obtain ⟨p, hp⟩ : ∃ p, runAns t.lay A X s = p := ⟨_, rfl⟩
    have HC := run_any t.lay A X s W2 hR2 hs
    rw [hp] at HC
    simp only [TL.lay] at HC
    go_wp2_with fail
    refine HC.mono ?_
    rintro e w3 ⟨rfl, hB3⟩
    have hs3 := hB3.size
    have HC2 := refRun_any _ A X s w3 (hM2.below hB3) hs
    rw [runAns_congr (r := ⟨ma, mn, t.na, mca, t.nn, mcn, fun i => if t.rl i = 0 then none else some ⟨rb i, 0, none⟩, t.rl, fun i => if t.rl i = 0 then 0 else rc i⟩) (r' := t.lay) rfl rfl rfl, hp] at HC2
    simp only at HC2
    obtain ⟨x0, _, _, _, _, x5, _⟩ := cell_seven ((hB3.block _ (by omega)).trans d0)
    obtain ⟨z0, z1, _, _⟩ := cell_two ((hB3.block _ (by omega)).trans c2)
    have BW3 : Below w.heap.size w w3 := BW2.trans (hB3.mono (by omega))
    clear HC hB3 hR2 hM2 d0 d1 c2 hp
    obtain ⟨pb, pe⟩ := p
    simp only at HC2 ⊢
    go_wp2_with fail
    refine HC2.mono ?_
    rintro e w4 ⟨rfl, hB4⟩
    have BW4 : Below w.heap.size w w4 := BW3.trans (hB4.mono (by omega))
    have q1 : (pb == pb) = true := by simp
    have q2 : (pe == pe) = true := by simp
    clear HC2 hB4
    go_wp2_with fail
    go_ret
    exact ⟨rfl, BW4⟩
  · cases hok : rawOk t.lay X
    · have HC := first_no t.lay A X W2 hR2 hok
      simp only [TL.lay] at HC
      go_wp2_with fail
      refine HC.mono ?_
      rintro e w3 ⟨rfl, hB3⟩
      have hs3 := hB3.size
      have HC2 := refFirst_no _ A X w3 (hM2.below hB3) ((rawOk_congr (r := ⟨ma, mn, t.na, mca, t.nn, mcn, fun i => if t.rl i = 0 then none else some ⟨rb i, 0, none⟩, t.rl, fun i => if t.rl i = 0 then 0 else rc i⟩) (r' := t.lay) rfl rfl rfl).trans hok)
      simp only at HC2
      obtain ⟨z0, z1, _, _⟩ := cell_two ((hB3.block _ (by omega)).trans c2)
      have BW3 : Below w.heap.size w w3 := BW2.trans (hB3.mono (by omega))
      clear HC hB3 hR2 hM2 d0 d1 c2 hok
      go_wp2_with fail
      refine HC2.mono ?_
      rintro e w4 ⟨rfl, hB4⟩
      have BW4 : Below w.heap.size w w4 := BW3.trans (hB4.mono (by omega))
      clear HC2 hB4
      go_wp2_with fail
      go_ret
      exact ⟨rfl, BW4⟩
    · obtain ⟨V, eV, hV⟩ := rawTab_at hR2 hok
      have hok2 := (rawOk_congr (r := ⟨ma, mn, t.na, mca, t.nn, mcn, fun i => if t.rl i = 0 then none else some ⟨rb i, 0, none⟩, t.rl, fun i => if t.rl i = 0 then 0 else rc i⟩) (r' := t.lay) (X := X) rfl rfl rfl).trans hok
      have HC := first_ok V _ W2 (rawTab_ok hok) hV
      rw [← eV] at HC
      simp only [RLay.val, TL.lay] at HC
      go_wp2_with fail
      refine HC.mono ?_
      intro e w3 hp1
      have hB3 := hp1.1
      obtain ⟨s1, v1, rfl⟩ := hp1.shape
      have hs3 := hB3.size
      obtain ⟨V', eV', hV'⟩ := rawTab_at (hM2.below hB3) hok2
      have HC2 := refFirst_ok V' _ w3 (rawTab_ok hok2) hV'
      rw [← eV'] at HC2
      simp only [RLay.val] at HC2
      obtain ⟨z0, z1, _, _⟩ := cell_two ((hB3.block _ (by omega)).trans c2)
      have BW3 : Below w.heap.size w w3 := BW2.trans (hB3.mono (by omega))
      have HP1 : Hid _ := hp1
      clear HC hB3 hR2 hM2 d0 d1 c2 hok hok2 eV hV eV' hV' hp1
      go_wp2_with fail
      refine HC2.mono ?_
      intro e w4 hp2
      have hB4 := hp2.1
      have he := (firstPost_same (M := rawTab t.lay A X) HP1.out hp2).1
      subst he
      have BW4 : Below w.heap.size w w4 := BW3.trans (hB4.mono (by omega))
      have q2 : (v1 == v1) = true := by simp
      clear HC2 hB4 hp2 HP1
      go_wp2_with fail
      go_ret
      exact ⟨rfl, BW4⟩
end Go.Proofs.YtpngikmcjkjdaaaGreatDoor
