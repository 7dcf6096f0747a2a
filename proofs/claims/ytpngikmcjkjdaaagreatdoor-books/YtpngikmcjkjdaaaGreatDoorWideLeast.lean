import Derived.Test.YtpngikmcjkjdaaaGreatDoorWide
namespace Go.Proofs.YtpngikmcjkjdaaaGreatDoor
open Go.RowKit
set_option linter.unusedVariables false

theorem LeastPost.bmono {L : List Nat → Bool} {budget b b' : Nat} {w w' : World} {e : Ending} (h : LeastPost L budget b w e w') (hb : b ≤ b') : LeastPost L budget b' w e w' := by
  obtain ⟨h0, h1⟩ := h
  refine ⟨h0, ?_⟩
  rcases h1 with h1 | ⟨h2, h3, h4⟩
  · exact .inl h1
  · exact .inr ⟨h2, by omega, h4⟩

set_option maxRecDepth 20000 in
set_option maxHeartbeats 2000000 in
theorem wleast_ok (gw ga ca gn cn : Nat) (M : Tab) (L : List Nat → Bool) (bu : Nat) (w : World) (hM : WideAt w gw ga ca gn cn M) (hN : Numbered M) (hn : M.n ≤ 100000000) (hL : ∀ x, Notes x → M.accepts x = L x) (hb0 : 1 ≤ bu) (hb1 : bu ≤ 40) :
    Calls Tryz.prog 100 #[.pointer (some ⟨gw, 0, none⟩), .int .i64 bu] w (LeastPost L bu M.n w) := by
  obtain ⟨W, hW⟩ : ∃ W, W = w.alloc (.cells #[.slice none 0 0, .slice none 0 0] 41) := ⟨_, rfl⟩
  have BW : Below w.heap.size w W := by rw [hW]; exact (Below.refl _ _).alloc (Nat.le_refl _) _
  have hWs : w.heap.size < W.heap.size := by rw [hW]; simp
  have b2 : W.heap[w.heap.size]? = some (.cells #[.slice none 0 0, .slice none 0 0] 41 (0, 0)) := by rw [hW]; exact heap_at_new (by simp)
  have hM0 := hM.below BW
  have xp := hM.p1
  have hgw := lt_of_cell hM.p1
  have HO := inOrder_ok gn cn M W hM0.cel hN hn
  have HC := shrink_ok gw ga ca gn cn M bu W hM0 hb0 hb1 hN.pos hn hN.nx
  have HN : Hid (Numbered M) := hN
  have HL : Hid (∀ x, Notes x → M.accepts x = L x) := hL
  clear hN hL
  go_enter Tryz.func100, Tryz.ntmps100
  go_wp2_with fail
  rw [← hW]
  clear hW
  refine HO.mono ?_
  rintro e w1 ⟨rfl, hw1⟩
  obtain rfl : W = w1 := hw1.symm
  clear HO hw1
  go_wp2_with fail
  refine HC.mono ?_
  clear HC xp hgw
  rintro e w5 ⟨hB5, hcase⟩
  have a2 := (hB5.block _ (by omega)).trans b2
  have BW5 : Below w.heap.size w w5 := BW.trans (hB5.mono (by omega))
  have hs5 := hB5.size
  clear b2 hB5 BW
  obtain ⟨q0, q1, p0, p1⟩ := cell_two a2
  have hsa : w.heap.size < w5.heap.size := by omega
  rcases hcase with ⟨f, hs, V', hst, hle, rfl, hT, hF, hFr⟩ | ⟨rfl, hs, hgt, hlt, hap⟩
  · have HS : Hid _ := hst
    clear hst
    go_wp2_with fail
    obtain ⟨r1, r2⟩ := res_alloc (u := .slice (some ⟨V'.ba, V'.oa, none⟩) hs.length V'.ca) (v := .slice (some ⟨V'.bn, V'.on, none⟩) hs.length V'.cn) a2 (.cells #[.slice (some ⟨V'.ba, V'.oa, none⟩) hs.length V'.ca, .slice (some ⟨V'.bn, V'.on, none⟩) hs.length V'.cn] 41)
    refine bodyPost_ret (v := .tuple #[.agg #[.slice (some ⟨V'.ba, V'.oa, none⟩) hs.length V'.ca, .slice (some ⟨V'.bn, V'.on, none⟩) hs.length V'.cn], .int .i64 0]) (by simp [results, Tryz.results100, go_sem, r1, r2]) rfl ?_
    have hBe := (below_res BW5 (b := w.heap.size) (by omega) (.slice (some ⟨V'.ba, V'.oa, none⟩) hs.length V'.ca) (.slice (some ⟨V'.bn, V'.on, none⟩) hs.length V'.cn)).alloc (by simp; omega) (.cells #[.slice (some ⟨V'.ba, V'.oa, none⟩) hs.length V'.ca, .slice (some ⟨V'.bn, V'.on, none⟩) hs.length V'.cn] 41)
    have hTe := (hT.res hF (b := w.heap.size) (by omega) (.slice (some ⟨V'.ba, V'.oa, none⟩) hs.length V'.ca) (.slice (some ⟨V'.bn, V'.on, none⟩) hs.length V'.cn)).below ((Below.refl _ _).alloc (Nat.le_refl _) (.cells #[.slice (some ⟨V'.ba, V'.oa, none⟩) hs.length V'.ca, .slice (some ⟨V'.bn, V'.on, none⟩) hs.length V'.cn] 41))
    exact ⟨hBe, .inl ⟨_, V', merged_least HN.out HS.out HL.out, hle, rfl, hTe, hF.mono (by omega), ((hFr.set _ _ _).set _ _ _).below ((Below.refl _ _).alloc (Nat.le_refl _) _)⟩⟩
  · go_wp2_with fail
    obtain ⟨r1, r2⟩ := res_alloc (u := .slice none 0 0) (v := .slice none 0 0) a2 (.cells #[.slice none 0 0, .slice none 0 0] 41)
    refine bodyPost_ret (v := .tuple #[.agg #[.slice none 0 0, .slice none 0 0], .int .i64 5]) (by simp [results, Tryz.results100, go_sem, r1, r2]) rfl ?_
    have hBe := (below_res BW5 (b := w.heap.size) (by omega) (.slice none 0 0) (.slice none 0 0)).alloc (by simp; omega) (.cells #[.slice none 0 0, .slice none 0 0] 41)
    have hl := heads_le hs hlt hap
    exact ⟨hBe, .inr ⟨rfl, by omega, fun R hRl => by have := apart_le hRl HN.out HL.out hs hlt hap; omega⟩⟩

set_option maxRecDepth 20000 in
set_option maxHeartbeats 2000000 in
theorem wleast_arg (gw ga ca gn cn : Nat) (M : Tab) (budget : Int) (w : World) (hM : WideAt w gw ga ca gn cn M) (hN : Numbered M) (hn : M.n ≤ 100000000) (hb : budget < 1 ∨ 40 < budget) :
    Calls Tryz.prog 100 #[.pointer (some ⟨gw, 0, none⟩), .int .i64 budget] w
      fun e w' => e = .returned (.tuple #[.agg #[.slice none 0 0, .slice none 0 0], .int .i64 8]) ∧ Below w.heap.size w w' := by
  obtain ⟨W, hW⟩ : ∃ W, W = w.alloc (.cells #[.slice none 0 0, .slice none 0 0] 41) := ⟨_, rfl⟩
  have BW : Below w.heap.size w W := by rw [hW]; exact (Below.refl _ _).alloc (Nat.le_refl _) _
  have hWs : w.heap.size < W.heap.size := by rw [hW]; simp
  have b2 : W.heap[w.heap.size]? = some (.cells #[.slice none 0 0, .slice none 0 0] 41 (0, 0)) := by rw [hW]; exact heap_at_new (by simp)
  have hM0 := hM.below BW
  have xp := hM.p1
  have hgw := lt_of_cell hM.p1
  have HO := inOrder_ok gn cn M W hM0.cel hN hn
  clear hN
  go_enter Tryz.func100, Tryz.ntmps100
  go_wp2_with fail
  rw [← hW]
  clear hW
  refine HO.mono ?_
  rintro e w1 ⟨rfl, hw1⟩
  obtain rfl : W = w1 := hw1.symm
  clear HO hw1 xp hgw
  obtain ⟨q0, q1, p0, p1⟩ := cell_two b2
  obtain ⟨_, r2, r1⟩ := res_two (u := .slice none 0 0) (v := .slice none 0 0) b2
  have hBe := below_res BW (b := w.heap.size) (by omega) (.slice none 0 0) (.slice none 0 0)
  have HB : Hid _ := hBe
  clear hBe
  rcases hb with hb | hb
  · go_wp2_with fail
    refine bodyPost_ret (v := .tuple #[.agg #[.slice none 0 0, .slice none 0 0], .int .i64 8]) (by simp [results, Tryz.results100, go_sem, r1, r2]) rfl ?_
    exact ⟨rfl, HB.out⟩
  · have hb' : ¬ budget < 1 := by omega
    go_wp2_with fail
    refine bodyPost_ret (v := .tuple #[.agg #[.slice none 0 0, .slice none 0 0], .int .i64 8]) (by simp [results, Tryz.results100, go_sem, r1, r2]) rfl ?_
    exact ⟨rfl, HB.out⟩
end Go.Proofs.YtpngikmcjkjdaaaGreatDoor
