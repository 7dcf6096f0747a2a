import Derived.Test.YtpngikmcjkjdaaaGreatDoorJoin
namespace Go.Proofs.YtpngikmcjkjdaaaGreatDoor
open Go.RowKit
set_option linter.unusedVariables false

set_option maxRecDepth 20000 in
set_option maxHeartbeats 2000000 in
theorem tjoin_arg (V U : Lay) (M N : Tab) (how budget : Int) (w : World) (hM : M.Ok) (hN : N.Ok) (hV : TabAt w V M) (hU : TabAt w U N) (hh0 : 0 ≤ how) (hh1 : how ≤ 3) (hb : budget < 1 ∨ 40 < budget) :
    Calls Tryz.prog 81 #[.agg #[.slice (some ⟨V.ba, V.oa, none⟩) M.n V.ca, .slice (some ⟨V.bn, V.on, none⟩) M.n V.cn], .agg #[.slice (some ⟨U.ba, U.oa, none⟩) N.n U.ca, .slice (some ⟨U.bn, U.on, none⟩) N.n U.cn], .int .i64 how, .int .i64 budget] w
      fun e w' => e = .returned (.tuple #[.agg #[.slice none 0 0, .slice none 0 0], .int .i64 8]) ∧ Below w.heap.size w w' := by
  obtain ⟨W, hW⟩ : ∃ W, W = ((w.alloc (.cells #[.slice (some ⟨V.ba, V.oa, none⟩) M.n V.ca, .slice (some ⟨V.bn, V.on, none⟩) M.n V.cn] 41)).alloc (.cells #[.slice (some ⟨U.ba, U.oa, none⟩) N.n U.ca, .slice (some ⟨U.bn, U.on, none⟩) N.n U.cn] 41)).alloc
      (.cells #[.slice none 0 0, .slice none 0 0] 41) := ⟨_, rfl⟩
  have BW : Below w.heap.size w W := by
    rw [hW]; exact (((Below.refl _ _).alloc (Nat.le_refl _) _).alloc (by simp) _).alloc (by simp; omega) _
  have hWs : W.heap.size = w.heap.size + 1 + 1 + 1 := by rw [hW]; simp
  have b0 : W.heap[w.heap.size]? = some (.cells #[.slice (some ⟨V.ba, V.oa, none⟩) M.n V.ca, .slice (some ⟨V.bn, V.on, none⟩) M.n V.cn] 41 (0, 0)) := by rw [hW]; exact heap_at_old (heap_at_old (heap_at_new (by simp)))
  have b1 : W.heap[w.heap.size + 1]? = some (.cells #[.slice (some ⟨U.ba, U.oa, none⟩) N.n U.ca, .slice (some ⟨U.bn, U.on, none⟩) N.n U.cn] 41 (0, 0)) := by rw [hW]; exact heap_at_old (heap_at_new (by simp))
  have b2 : W.heap[w.heap.size + 1 + 1]? = some (.cells #[.slice none 0 0, .slice none 0 0] 41 (0, 0)) := by rw [hW]; exact heap_at_new (by simp)
  have hV0 := hV.below BW
  have hU0 := hU.below BW
  obtain ⟨x0, x1, _, _⟩ := cell_two b0
  go_enter Tryz.func81, Tryz.ntmps81
  go_wp2_with fail
  rw [← hW]
  clear hW
  refine (valid_ok V M _ hM hV0).mono ?_
  rintro e w1 ⟨rfl, hB1⟩
  have a0 := (hB1.block _ (by omega)).trans b0
  have a1 := (hB1.block _ (by omega)).trans b1
  have a2 := (hB1.block _ (by omega)).trans b2
  have hs1 := hB1.size
  have hV1 := hV0.below hB1
  have hU1 := hU0.below hB1
  have BW1 : Below w.heap.size w w1 := BW.trans (hB1.mono (by omega))
  clear x0 x1 b0 b1 b2 hB1 hV0 hU0 BW
  obtain ⟨x2, x3, _, _⟩ := cell_two a1
  go_wp2_with fail
  refine (valid_ok U N _ hN hU1).mono ?_
  rintro e w2 ⟨rfl, hB2⟩
  have b0 := (hB2.block _ (by omega)).trans a0
  have b1 := (hB2.block _ (by omega)).trans a1
  have b2 := (hB2.block _ (by omega)).trans a2
  have hs2 := hB2.size
  have hV2 := hV1.below hB2
  have hU2 := hU1.below hB2
  have BW2 : Below w.heap.size w w2 := BW1.trans (hB2.mono (by omega))
  clear x2 x3 a0 a1 a2 hB2 hV1 hU1 BW1
  obtain ⟨x0, x1, _, _⟩ := cell_two b0
  obtain ⟨x2, x3, _, _⟩ := cell_two b1
  go_wp2_with fail
  refine (pairUp_ok V U M N how _ hM hN hV2 hU2 hh0 hh1).mono ?_
  rintro e w3 ⟨hB3, ps, gw, ga, ca, gn, cn, hR, rfl, hWd⟩
  have a2 := (hB3.block _ (by omega)).trans b2
  have hs3 := hB3.size
  have BW3 : Below w.heap.size w w3 := BW2.trans (hB3.mono (by omega))
  clear x0 x1 x2 x3 b0 b1 b2 hB3 hV2 hU2 BW2 hV hU
  have hnum := pair_numbered (how := how) hR
  have hlang := fun x hx => pair_accepts hM hN (how := how) hR x hx
  have hbd := hR.bound hN
  have hps : ps.length ≤ 1600 := by have := Nat.mul_le_mul hM.hi hN.hi; omega
  have HC := wleast_arg gw ga ca gn cn (pairTab M N how ps) budget w3 hWd hnum (by show ps.length ≤ 100000000; omega) hb
  clear hnum hlang hR hWd hbd hb
  go_wp2_with fail
  refine HC.mono ?_
  clear HC
  rintro e w5 ⟨rfl, hB5⟩
  have a3 := (hB5.block _ (by omega)).trans a2
  have BW5 : Below w.heap.size w w5 := BW3.trans (hB5.mono (by omega))
  have HF : Hid _ := below_res BW5 (b := w.heap.size + 1 + 1) (by omega) (.slice none 0 0) (.slice none 0 0)
  obtain ⟨q0, q1, p0, p1⟩ := cell_two a3
  clear hB5 a2
  go_wp2_with fail
  obtain ⟨r1, r2, r3⟩ := res_two (u := .slice none 0 0) (v := .slice none 0 0) a3
  refine bodyPost_ret (v := .tuple #[.agg #[.slice none 0 0, .slice none 0 0], .int .i64 8]) (by simp [results, Tryz.results81, go_sem, r1, r2]) rfl ?_
  exact ⟨rfl, HF.out⟩

end Go.Proofs.YtpngikmcjkjdaaaGreatDoor
