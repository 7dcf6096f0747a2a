import Derived.Test.YtpngikmcjkjdaaaGreatDoorG1
import Derived.Test.YtpngikmcjkjdaaaGreatDoorG11
import Derived.Test.YtpngikmcjkjdaaaGreatDoorG8
set_option linter.unusedVariables false
set_option linter.unusedSimpArgs false
namespace Go.Proofs.YtpngikmcjkjdaaaGreatDoor
open Go.RowKit
set_option linter.unusedVariables false
set_option linter.unusedSimpArgs false
def CompNo (er : Int) (pl : Nat) (w : World) (e : Ending) (w' : World) : Prop := e = .returned (.tuple #[.agg #[.slice none 0 0, .slice none 0 0], .int .i64 er, .int .i64 (pl : Int)]) ∧ Below w.heap.size w w'
set_option maxRecDepth 20000 in
set_option maxHeartbeats 4000000 in
theorem pcompile_long (s : ByteArray) (b : Int) (w : World) (hss : s.size ≤ maxLen) (hs : 40 < s.size) : Calls Tryz.prog 68 #[.string s, .int .i64 b] w (CompNo 1 0 w) := by
  unfold maxLen at hss
  obtain ⟨W, hW⟩ : ∃ W, W = w.alloc (.cells #[.slice none 0 0, .slice none 0 0] 41) := ⟨_, rfl⟩
  have BW : Below w.heap.size w W := by rw [hW]; exact (Below.refl _ _).alloc (Nat.le_refl _) _
  have b0 : W.heap[w.heap.size]? = some (.cells #[.slice none 0 0, .slice none 0 0] 41 (0, 0)) := by rw [hW]; exact heap_at_new rfl
  have hs2 : (40 : Int) < (s.size : Int) := by omega
  obtain ⟨q0, q1, p0, p1⟩ := cell_two b0
  go_enter Tryz.func68, Tryz.ntmps68
  go_upto_region 1 with fail
  rw [← hW]
  clear hW
  go_wp2_with fail
  obtain ⟨_, r2, r1⟩ := res_two (u := .slice none 0 0) (v := .slice none 0 0) b0
  refine bodyPost_ret (v := .tuple #[.agg #[.slice none 0 0, .slice none 0 0], .int .i64 1, .int .i64 0]) (by simp [results, Tryz.results68, go_sem, r1, r2]) rfl ?_
  exact ⟨rfl, below_res BW (b := w.heap.size) (by omega) (.slice none 0 0) (.slice none 0 0)⟩
set_option maxRecDepth 20000 in
set_option maxHeartbeats 4000000 in
theorem pcompile_bad (s : ByteArray) (b : Int) (w : World) (hs : s.size ≤ 40) {t : Sp} (hp : parseF s = .no t ∨ ∃ p, parseF s = .ok p t ∧ t.a ≠ s.size) : Calls Tryz.prog 68 #[.string s, .int .i64 b] w (CompNo 2 t.a w) := by
  obtain ⟨W, hW⟩ : ∃ W, W = (w.alloc (.cells #[.slice none 0 0, .slice none 0 0] 41)).alloc (.cells #[.string s, .int .i64 0, .slice none 0 0, .bool false, .int .i64 0] 125) := ⟨_, rfl⟩
  have BW : Below w.heap.size w W := by rw [hW]; exact ((Below.refl _ _).alloc (Nat.le_refl _) _).alloc (by simp) _
  have hWs : W.heap.size = w.heap.size + 1 + 1 := by rw [hW]; simp
  have b0 : W.heap[w.heap.size]? = some (.cells #[.slice none 0 0, .slice none 0 0] 41 (0, 0)) := by rw [hW]; exact heap_at_old (heap_at_new rfl)
  have b1 : W.heap[w.heap.size + 1]? = some (.cells #[.string s, .int .i64 0, .slice none 0 0, .bool false, .int .i64 0] 125 (0, 0)) := by rw [hW]; exact heap_at_new (by simp)
  have hs2 : ¬ (40 : Int) < (s.size : Int) := by omega
  have HC := parse_bad (w.heap.size + 1) s W hs (par_start b1) hp
  clear b1 hp
  go_enter Tryz.func68, Tryz.ntmps68
  go_upto_region 4 with fail
  rw [← hW]
  clear hW
  go_wp2_with fail
  refine HC.mono ?_
  clear HC
  rintro e w1 ⟨v, vn1, M, rfl, hm1, hB1⟩
  have B1 : Below w.heap.size w w1 := BW.trans (hB1.mono (by omega))
  have a0 := (hB1.block _ (by omega)).trans b0
  obtain ⟨_, y1, _, _, _, _, _, _⟩ := hm1.par.cells
  have hl1 := hm1.lt
  clear hm1 hB1 b0
  obtain ⟨q0, q1, p0, p1⟩ := cell_two a0
  go_wp2_with fail
  go_region
  all_goals
    go_wp2_with fail
    obtain ⟨r0, r2, r1⟩ := res_two (w := w1) (u := .slice none 0 0) (v := .slice none 0 0) a0
    refine bodyPost_ret (v := .tuple #[.agg #[.slice none 0 0, .slice none 0 0], .int .i64 2, .int .i64 (t.a : Int)]) (by simp [results, Tryz.results68, go_sem, r0, r1, r2]) rfl ?_
    exact ⟨rfl, (below_res B1 (b := w.heap.size) (by omega) (.slice none 0 0) (.slice none 0 0)).drew⟩
set_option maxRecDepth 20000 in
set_option maxHeartbeats 4000000 in
theorem pcompile_span (s : ByteArray) (b : Int) (w : World) (hs : s.size ≤ 40) {p : Pat} {t : Sp} (hp : parseF s = .ok p t) (hta : t.a = s.size) (hbk : t.bk = true) : Calls Tryz.prog 68 #[.string s, .int .i64 b] w (CompNo 3 t.sp w) := by
  obtain ⟨W, hW⟩ : ∃ W, W = (w.alloc (.cells #[.slice none 0 0, .slice none 0 0] 41)).alloc (.cells #[.string s, .int .i64 0, .slice none 0 0, .bool false, .int .i64 0] 125) := ⟨_, rfl⟩
  have BW : Below w.heap.size w W := by rw [hW]; exact ((Below.refl _ _).alloc (Nat.le_refl _) _).alloc (by simp) _
  have hWs : W.heap.size = w.heap.size + 1 + 1 := by rw [hW]; simp
  have b0 : W.heap[w.heap.size]? = some (.cells #[.slice none 0 0, .slice none 0 0] 41 (0, 0)) := by rw [hW]; exact heap_at_old (heap_at_new rfl)
  have b1 : W.heap[w.heap.size + 1]? = some (.cells #[.string s, .int .i64 0, .slice none 0 0, .bool false, .int .i64 0] 125 (0, 0)) := by rw [hW]; exact heap_at_new (by simp)
  have hs2 : ¬ (40 : Int) < (s.size : Int) := by omega
  have HC := parse_ok (w.heap.size + 1) s W hs (par_start b1) hp hta
  clear b1 hp hta
  go_enter Tryz.func68, Tryz.ntmps68
  go_upto_region 4 with fail
  rw [← hW]
  clear hW
  go_wp2_with fail
  refine HC.mono ?_
  clear HC
  rintro e w1 ⟨i, vn1, M, rfl, hm1, hN, hMl, hB1⟩
  have B1 : Below w.heap.size w w1 := BW.trans (hB1.mono (by omega))
  have a0 := (hB1.block _ (by omega)).trans b0
  obtain ⟨_, _, _, y3, y4, _, _, _⟩ := hm1.par.cells
  rw [hbk] at y3
  have hl1 := hm1.lt
  clear hm1 hB1 b0 hN hbk
  obtain ⟨q0, q1, p0, p1⟩ := cell_two a0
  go_wp2_with fail
  go_region
  all_goals
    go_wp2_with fail
    obtain ⟨r0, r2, r1⟩ := res_two (w := w1) (u := .slice none 0 0) (v := .slice none 0 0) a0
    refine bodyPost_ret (v := .tuple #[.agg #[.slice none 0 0, .slice none 0 0], .int .i64 3, .int .i64 (t.sp : Int)]) (by simp [results, Tryz.results68, go_sem, r0, r1, r2]) rfl ?_
    exact ⟨rfl, (below_res B1 (b := w.heap.size) (by omega) (.slice none 0 0) (.slice none 0 0)).drew⟩
set_option maxRecDepth 20000 in
set_option maxHeartbeats 4000000 in
theorem pcompile_size (s : ByteArray) (b : Int) (w : World) (hs : s.size ≤ 40) {p : Pat} {t : Sp} (hp : parseF s = .ok p t) (hta : t.a = s.size) (hbk : t.bk = false) (hsz : 10 < p.size) : Calls Tryz.prog 68 #[.string s, .int .i64 b] w (CompNo 4 0 w) := by
  obtain ⟨W, hW⟩ : ∃ W, W = (w.alloc (.cells #[.slice none 0 0, .slice none 0 0] 41)).alloc (.cells #[.string s, .int .i64 0, .slice none 0 0, .bool false, .int .i64 0] 125) := ⟨_, rfl⟩
  have BW : Below w.heap.size w W := by rw [hW]; exact ((Below.refl _ _).alloc (Nat.le_refl _) _).alloc (by simp) _
  have hWs : W.heap.size = w.heap.size + 1 + 1 := by rw [hW]; simp
  have b0 : W.heap[w.heap.size]? = some (.cells #[.slice none 0 0, .slice none 0 0] 41 (0, 0)) := by rw [hW]; exact heap_at_old (heap_at_new rfl)
  have b1 : W.heap[w.heap.size + 1]? = some (.cells #[.string s, .int .i64 0, .slice none 0 0, .bool false, .int .i64 0] 125 (0, 0)) := by rw [hW]; exact heap_at_new (by simp)
  have hs2 : ¬ (40 : Int) < (s.size : Int) := by omega
  have HC := parse_ok (w.heap.size + 1) s W hs (par_start b1) hp hta
  clear b1 hp hta
  go_enter Tryz.func68, Tryz.ntmps68
  go_upto_region 4 with fail
  rw [← hW]
  clear hW
  go_wp2_with fail
  refine HC.mono ?_
  clear HC
  rintro e w1 ⟨i, vn1, M, rfl, hm1, hN, hMl, hB1⟩
  obtain ⟨d, hd, hdz⟩ := hN.node
  obtain ⟨gn, cap, rfl, hc⟩ := hm1.nd hd
  have x1 := hc 1 (by omega)
  simp [nagg] at x1
  obtain ⟨z, HZ⟩ : ∃ x, Hid (d.size = x) := ⟨_, rfl⟩
  rw [HZ.out] at x1
  obtain ⟨_, _, y2, y3, _, _, _, _⟩ := hm1.par.cells
  rw [hbk] at y3
  have hil : i < M.length := hN.lt
  have hg2 : gn < w1.heap.size := (hm1.own.lt gn rfl).2
  have B1 : Below w.heap.size w w1 := BW.trans (hB1.mono (by omega))
  have a0 := (hB1.block _ (by omega)).trans b0
  have hs1 := hm1.lt
  have hz10 : (10 : Int) < (z : Int) := by rw [← HZ.out, hdz]; omega
  clear hc hN hm1 hB1 hd hdz b0 HZ
  obtain ⟨q0, q1, p0, p1⟩ := cell_two a0
  go_wp2_with fail
  obtain ⟨_, r2, r1⟩ := res_two (u := .slice none 0 0) (v := .slice none 0 0) a0
  refine bodyPost_ret (v := .tuple #[.agg #[.slice none 0 0, .slice none 0 0], .int .i64 4, .int .i64 0]) (by simp [results, Tryz.results68, go_sem, r1, r2]) rfl ?_
  exact ⟨rfl, below_res B1 (b := w.heap.size) (by omega) (.slice none 0 0) (.slice none 0 0)⟩
set_option maxRecDepth 20000 in
set_option maxHeartbeats 4000000 in
theorem pcompile_arg (s : ByteArray) (b : Int) (w : World) (hs : s.size ≤ 40) {p : Pat} {t : Sp} (hp : parseF s = .ok p t) (hta : t.a = s.size) (hbk : t.bk = false) (hsz : p.size ≤ 10) (hb : b < 1 ∨ 40 < b) : Calls Tryz.prog 68 #[.string s, .int .i64 b] w (CompNo 8 0 w) := by
  obtain ⟨W, hW⟩ : ∃ W, W = (w.alloc (.cells #[.slice none 0 0, .slice none 0 0] 41)).alloc (.cells #[.string s, .int .i64 0, .slice none 0 0, .bool false, .int .i64 0] 125) := ⟨_, rfl⟩
  have BW : Below w.heap.size w W := by rw [hW]; exact ((Below.refl _ _).alloc (Nat.le_refl _) _).alloc (by simp) _
  have hWs : W.heap.size = w.heap.size + 1 + 1 := by rw [hW]; simp
  have b0 : W.heap[w.heap.size]? = some (.cells #[.slice none 0 0, .slice none 0 0] 41 (0, 0)) := by rw [hW]; exact heap_at_old (heap_at_new rfl)
  have b1 : W.heap[w.heap.size + 1]? = some (.cells #[.string s, .int .i64 0, .slice none 0 0, .bool false, .int .i64 0] 125 (0, 0)) := by rw [hW]; exact heap_at_new (by simp)
  have hs2 : ¬ (40 : Int) < (s.size : Int) := by omega
  have HC := parse_ok (w.heap.size + 1) s W hs (par_start b1) hp hta
  clear b1 hp hta
  go_enter Tryz.func68, Tryz.ntmps68
  go_upto_region 4 with fail
  rw [← hW]
  clear hW
  go_wp2_with fail
  refine HC.mono ?_
  clear HC
  rintro e w1 ⟨i, vn1, M, rfl, hm1, hN, hMl, hB1⟩
  obtain ⟨d, hd, hdz⟩ := hN.node
  obtain ⟨gn, cap, rfl, hc⟩ := hm1.nd hd
  have x1 := hc 1 (by omega)
  simp [nagg] at x1
  obtain ⟨z, HZ⟩ : ∃ x, Hid (d.size = x) := ⟨_, rfl⟩
  rw [HZ.out] at x1
  obtain ⟨_, _, y2, y3, _, _, _, _⟩ := hm1.par.cells
  rw [hbk] at y3
  have hil : i < M.length := hN.lt
  have hg2 : gn < w1.heap.size := (hm1.own.lt gn rfl).2
  have B1 : Below w.heap.size w w1 := BW.trans (hB1.mono (by omega))
  have a0 := (hB1.block _ (by omega)).trans b0
  have hs1 := hm1.lt
  have hz10 : ¬ (10 : Int) < (z : Int) := by rw [← HZ.out, hdz]; omega
  have hNA : NodesAt w1 gn M := fun i d hi j hj => by
    obtain ⟨g', cap', he, hc'⟩ := hm1.nd hi
    simp only [Value.slice.injEq, Option.some.injEq, Addr.mk.injEq] at he
    obtain ⟨⟨rfl, _⟩, _, rfl⟩ := he
    exact hc' j hj
  have HC := build_ok M gn cap i p w1 hN hNA hg2 hsz
  clear hc hN hNA hm1 hB1 hd hdz b0
  go_wp2_with fail
  refine HC.mono ?_
  clear HC
  rintro e w2 ⟨hB2, m, ps, gw, ga, ca, gn', cn, hR, hlang, rfl, hWd⟩
  have hz2 := hB2.size
  have hbd := Mach.bound hR
  have HC := wleast_arg gw ga ca gn' cn _ b w2 hWd (Mach.numbered hR) (by show ps.length ≤ 100000000; omega) hb
  have B2 : Below w.heap.size w w2 := B1.trans (hB2.mono (by omega))
  have a1 := (hB2.block _ (by omega)).trans a0
  clear hR hWd hB2 hlang hb
  go_wp2_with fail
  refine HC.mono ?_
  clear HC
  rintro e w3 ⟨rfl, hB3⟩
  have a3 := (hB3.block _ (by omega)).trans a1
  have hz3 := hB3.size
  have B3 : Below w.heap.size w w3 := B2.trans (hB3.mono (by omega))
  obtain ⟨q0, q1, p0, p1⟩ := cell_two a3
  have na : ¬ w.heap.size = w3.heap.size := by omega
  have ma : w.heap.size < w3.heap.size := by omega
  clear hB3 x1 y2 y3
  go_wp2_with fail
  obtain ⟨r1, r2⟩ := res_alloc (u := .slice none 0 0) (v := .slice none 0 0) a3 (.cells #[.slice none 0 0, .slice none 0 0] 41)
  refine bodyPost_ret (v := .tuple #[.agg #[.slice none 0 0, .slice none 0 0], .int .i64 8, .int .i64 0]) (by simp [results, Tryz.results68, go_sem, r1, r2]) rfl ?_
  exact ⟨rfl, (below_res B3 (b := w.heap.size) (by omega) (.slice none 0 0) (.slice none 0 0)).alloc (by simp; omega) _⟩
theorem pcompile_no (s : ByteArray) (b : Int) (w : World) (hss : s.size ≤ maxLen) {er : Int} {pl : Nat} (h : compErr s b = some (er, pl)) : Calls Tryz.prog 68 #[.string s, .int .i64 b] w (CompNo er pl w) := by
  unfold compErr at h
  split at h
  · rename_i h0
    simp only [Option.some.injEq, Prod.mk.injEq] at h
    obtain ⟨rfl, rfl⟩ := h
    exact pcompile_long s b w hss h0
  · rename_i h0
    have hs : s.size ≤ 40 := by omega
    cases hp : parseF s with
    | no t =>
      rw [hp] at h
      simp only [Option.some.injEq, Prod.mk.injEq] at h
      obtain ⟨rfl, rfl⟩ := h
      exact pcompile_bad s b w hs (.inl hp)
    | ok p t =>
      rw [hp] at h
      simp only at h
      split at h
      · rename_i h1
        simp only [Option.some.injEq, Prod.mk.injEq] at h
        obtain ⟨rfl, rfl⟩ := h
        exact pcompile_bad s b w hs (.inr ⟨p, hp, h1⟩)
      · rename_i h1
        split at h
        · rename_i h2
          simp only [Option.some.injEq, Prod.mk.injEq] at h
          obtain ⟨rfl, rfl⟩ := h
          exact pcompile_span s b w hs hp (by omega) h2
        · rename_i h2
          split at h
          · rename_i h3
            simp only [Option.some.injEq, Prod.mk.injEq] at h
            obtain ⟨rfl, rfl⟩ := h
            exact pcompile_size s b w hs hp (by omega) (by simpa using h2) h3
          · rename_i h3
            split at h
            · rename_i h4
              simp only [Option.some.injEq, Prod.mk.injEq] at h
              obtain ⟨rfl, rfl⟩ := h
              exact pcompile_arg s b w hs hp (by omega) (by simpa using h2) (by omega) h4
            · simp at h
set_option maxRecDepth 20000 in
set_option maxHeartbeats 4000000 in
theorem compile_ok (s : ByteArray) (b : Nat) (w : World) {p : Pat} {t : Sp} (hp : parseF s = .ok p t) (hta : t.a = s.size) (hbk : t.bk = false) (hsz : p.size ≤ 10) (hs : s.size ≤ 40) (hb1 : 1 ≤ b) (hb2 : b ≤ 40) :
    Calls Tryz.prog 30 #[.string s, .int .i64 (b : Int)] w fun e w' => ∃ n, CompPost (patL p) b n w e w' := by
  obtain ⟨W, hW⟩ : ∃ W, W = w.alloc (.cells #[.slice none 0 0, .slice none 0 0] 41) := ⟨_, rfl⟩
  have BW : Below w.heap.size w W := by rw [hW]; exact (Below.refl _ _).alloc (Nat.le_refl _) _
  have hWs : W.heap.size = w.heap.size + 1 := by rw [hW]; simp
  have b0 : W.heap[w.heap.size]? = some (.cells #[.slice none 0 0, .slice none 0 0] 41 (0, 0)) := by rw [hW]; exact heap_at_new rfl
  have HC := pcompile_ok s b W hp hta hbk hsz hs hb1 hb2
  clear hp hta hbk hsz hs hb1 hb2
  go_enter Tryz.func30, Tryz.ntmps30
  go_wp2_with fail
  rw [← hW]
  clear hW
  refine HC.mono ?_
  clear HC
  rintro e w1 ⟨n, v, er', rfl, hp⟩
  obtain ⟨a0, n0, c0, a1, n1, c1, er, he, hB, hB1, hfin⟩ := hp.wrap3 BW (by omega)
  simp only [Ending.returned.injEq, Value.tuple.injEq, Array.mk.injEq, List.cons.injEq, Value.int.injEq, true_and, and_true] at he
  obtain ⟨rfl, rfl⟩ := he
  have a2 := (hB1.block _ (by omega)).trans b0
  have HF : Hid _ := hfin w.heap.size (by omega) (by omega)
  obtain ⟨q0, q1, p0, p1⟩ := cell_two a2
  clear hp hfin hB1 b0
  go_wp2_with fail
  obtain ⟨r1, r2, r3⟩ := res_two (u := .slice a0 n0 c0) (v := .slice a1 n1 c1) a2
  refine bodyPost_ret (v := .tuple #[.agg #[.slice a0 n0 c0, .slice a1 n1 c1], .int .i64 er', .int .i64 0]) (by simp [results, Tryz.results30, go_sem, r1, r2]) rfl ?_
  exact ⟨n, _, er', rfl, HF.out _ (by simpa using Below.refl _ _)⟩
set_option maxRecDepth 20000 in
set_option maxHeartbeats 4000000 in
theorem compile_no (s : ByteArray) (b : Int) (w : World) (hss : s.size ≤ maxLen) {er : Int} {pl : Nat} (h : compErr s b = some (er, pl)) : Calls Tryz.prog 30 #[.string s, .int .i64 b] w (CompNo er pl w) := by
  obtain ⟨W, hW⟩ : ∃ W, W = w.alloc (.cells #[.slice none 0 0, .slice none 0 0] 41) := ⟨_, rfl⟩
  have BW : Below w.heap.size w W := by rw [hW]; exact (Below.refl _ _).alloc (Nat.le_refl _) _
  have hWs : W.heap.size = w.heap.size + 1 := by rw [hW]; simp
  have b0 : W.heap[w.heap.size]? = some (.cells #[.slice none 0 0, .slice none 0 0] 41 (0, 0)) := by rw [hW]; exact heap_at_new rfl
  have HC := pcompile_no s b W hss h
  clear h
  go_enter Tryz.func30, Tryz.ntmps30
  go_wp2_with fail
  rw [← hW]
  clear hW
  refine HC.mono ?_
  clear HC
  rintro e w1 ⟨rfl, hB1⟩
  have a2 := (hB1.block _ (by omega)).trans b0
  have B1 : Below w.heap.size w w1 := BW.trans (hB1.mono (by omega))
  obtain ⟨q0, q1, p0, p1⟩ := cell_two a2
  clear hB1 b0
  go_wp2_with fail
  obtain ⟨r1, r2, r3⟩ := res_two (u := .slice none 0 0) (v := .slice none 0 0) a2
  refine bodyPost_ret (v := .tuple #[.agg #[.slice none 0 0, .slice none 0 0], .int .i64 er, .int .i64 (pl : Int)]) (by simp [results, Tryz.results30, go_sem, r1, r2]) rfl ?_
  exact ⟨rfl, below_res B1 (b := w.heap.size) (by omega) (.slice none 0 0) (.slice none 0 0)⟩
end Go.Proofs.YtpngikmcjkjdaaaGreatDoor
namespace Go.Proofs.YtpngikmcjkjdaaaGreatDoor
open Go.RowKit
set_option linter.unusedVariables false
set_option linter.unusedSimpArgs false
set_option maxRecDepth 20000 in
set_option maxHeartbeats 2000000 in
theorem risNote_ok (c : Nat) (w : World) (hc : c < 256) : Calls Tryz.prog 146 #[.int .u8 (c : Int)] w fun e w' => e = .returned (.bool (isNoteN c)) ∧ w = w' := by
  by_cases h1 : 97 ≤ c
  · by_cases h2 : c ≤ 104
    · have e1 : isNoteN c = true := by unfold isNoteN; simp [h1, h2]
      rw [e1]
      have t1 : (97 : Int) ≤ (c : Int) := by omega
      have t2 : (c : Int) ≤ 104 := by omega
      clear h1 h2 e1
      go_enter Tryz.func146, Tryz.ntmps146
      go_wp2_with fail
      go_ret
      exact ⟨rfl, rfl⟩
    · have e1 : isNoteN c = false := by unfold isNoteN; simp [h1, h2]
      rw [e1]
      have t1 : (97 : Int) ≤ (c : Int) := by omega
      have t2 : ¬ (c : Int) ≤ 104 := by omega
      clear h1 h2 e1
      go_enter Tryz.func146, Tryz.ntmps146
      go_wp2_with fail
      go_ret
      exact ⟨rfl, rfl⟩
  · have e1 : isNoteN c = false := by unfold isNoteN; simp [h1]
    rw [e1]
    have t1 : ¬ (97 : Int) ≤ (c : Int) := by omega
    clear h1 e1
    go_enter Tryz.func146, Tryz.ntmps146
    go_wp2_with fail
    go_ret
    exact ⟨rfl, rfl⟩
set_option maxRecDepth 20000 in
set_option maxHeartbeats 2000000 in
theorem risDigit_ok (c : Nat) (w : World) (hc : c < 256) : Calls Tryz.prog 110 #[.int .u8 (c : Int)] w fun e w' => e = .returned (.bool (isDigitN c)) ∧ w = w' := by
  by_cases h1 : 48 ≤ c
  · by_cases h2 : c ≤ 57
    · have e1 : isDigitN c = true := by unfold isDigitN; simp [h1, h2]
      rw [e1]
      have t1 : (48 : Int) ≤ (c : Int) := by omega
      have t2 : (c : Int) ≤ 57 := by omega
      clear h1 h2 e1
      go_enter Tryz.func110, Tryz.ntmps110
      go_wp2_with fail
      go_ret
      exact ⟨rfl, rfl⟩
    · have e1 : isDigitN c = false := by unfold isDigitN; simp [h1, h2]
      rw [e1]
      have t1 : (48 : Int) ≤ (c : Int) := by omega
      have t2 : ¬ (c : Int) ≤ 57 := by omega
      clear h1 h2 e1
      go_enter Tryz.func110, Tryz.ntmps110
      go_wp2_with fail
      go_ret
      exact ⟨rfl, rfl⟩
  · have e1 : isDigitN c = false := by unfold isDigitN; simp [h1]
    rw [e1]
    have t1 : ¬ (48 : Int) ≤ (c : Int) := by omega
    clear h1 e1
    go_enter Tryz.func110, Tryz.ntmps110
    go_wp2_with fail
    go_ret
    exact ⟨rfl, rfl⟩
set_option maxRecDepth 20000 in
set_option maxHeartbeats 2000000 in
theorem ritem_ok (q d c : Nat) (w : World) (hc : c < 256) (hd : d ≤ 1000000) (hq : q ≤ 12) :
    Calls Tryz.prog 107 #[.int .i64 (q : Int), .int .i64 (d : Int), .int .u8 (c : Int)] w fun e w' => e = .returned (.tuple #[.int .i64 ((itemA q d c).1 : Int), .int .i64 ((itemA q d c).2 : Int)]) ∧ w = w' := by
  by_cases hn : 97 ≤ c ∧ c ≤ 104
  · have hn1 : isNoteN c = true := noteN_iff.2 hn
    have e1 : itemA q d c = (1, d) := by unfold itemA; simp [hn1]
    rw [e1]
    have HC := risNote_ok c w hc
    rw [hn1] at HC
    clear e1 hn1 hn
    go_enter Tryz.func107, Tryz.ntmps107
    go_wp2_with (go_at_call 146; refine HC.mono ?_; rintro e w' ⟨rfl, rfl⟩)
    all_goals
      go_ret2
      exact ⟨by simp, rfl⟩
  have hn1 : isNoteN c = false := noteN_no.2 (by omega)
  by_cases h46 : c = 46
  · subst h46
    have e1 : itemA q d 46 = (1, d) := by unfold itemA isNoteN; simp
    rw [e1]
    have HC := risNote_ok 46 w (by omega)
    rw [show isNoteN 46 = false from rfl] at HC
    simp only [show ((46 : Nat) : Int) = 46 from rfl] at HC ⊢
    clear e1 hn1 hn
    go_enter Tryz.func107, Tryz.ntmps107
    go_wp2_with (go_at_call 146; refine HC.mono ?_; rintro e w' ⟨rfl, rfl⟩)
    all_goals
      go_ret2
      exact ⟨by first | rfl | simp | (simp; omega), rfl⟩
  by_cases h91 : c = 91
  · subst h91
    have e1 : itemA q d 91 = (3, d) := by unfold itemA isNoteN; simp
    rw [e1]
    have HC := risNote_ok 91 w (by omega)
    rw [show isNoteN 91 = false from rfl] at HC
    simp only [show ((91 : Nat) : Int) = 91 from rfl] at HC ⊢
    clear e1 hn1 hn
    go_enter Tryz.func107, Tryz.ntmps107
    go_wp2_with (go_at_call 146; refine HC.mono ?_; rintro e w' ⟨rfl, rfl⟩)
    all_goals
      go_ret2
      exact ⟨by first | rfl | simp | (simp; omega), rfl⟩
  by_cases h40 : c = 40
  · subst h40
    by_cases hd6 : d < 6
    · have hd7 : (d : Int) < 6 := by omega
      have e1 : itemA q d 40 = (0, d + 1) := by unfold itemA isNoteN; simp [hd6]
      rw [e1]
      have HC := risNote_ok 40 w (by omega)
      rw [show isNoteN 40 = false from rfl] at HC
      simp only [show ((40 : Nat) : Int) = 40 from rfl] at HC ⊢
      clear e1 hn1 hn
      go_enter Tryz.func107, Tryz.ntmps107
      go_wp2_with (go_at_call 146; refine HC.mono ?_; rintro e w' ⟨rfl, rfl⟩)
      all_goals
        go_ret2
        exact ⟨by first | rfl | simp | (simp; omega), rfl⟩
    · have hd7 : ¬ (d : Int) < 6 := by omega
      have e1 : itemA q d 40 = (12, d) := by unfold itemA isNoteN; simp [hd6]
      rw [e1]
      have HC := risNote_ok 40 w (by omega)
      rw [show isNoteN 40 = false from rfl] at HC
      simp only [show ((40 : Nat) : Int) = 40 from rfl] at HC ⊢
      clear e1 hn1 hn
      go_enter Tryz.func107, Tryz.ntmps107
      go_wp2_with (go_at_call 146; refine HC.mono ?_; rintro e w' ⟨rfl, rfl⟩)
      all_goals
        go_ret2
        exact ⟨by first | rfl | simp | (simp; omega), rfl⟩
  by_cases h41 : c = 41
  · subst h41
    by_cases hd6 : 0 < d
    · have hd7 : (0 : Int) < (d : Int) := by omega
      obtain ⟨d, rfl⟩ : ∃ m, d = m + 1 := ⟨d - 1, by omega⟩
      have e1 : itemA q (d + 1) 41 = (1, d) := by unfold itemA isNoteN; simp
      rw [e1]
      have HC := risNote_ok 41 w (by omega)
      rw [show isNoteN 41 = false from rfl] at HC
      simp only [show ((41 : Nat) : Int) = 41 from rfl] at HC ⊢
      clear e1 hn1 hn
      go_enter Tryz.func107, Tryz.ntmps107
      go_wp2_with (go_at_call 146; refine HC.mono ?_; rintro e w' ⟨rfl, rfl⟩)
      all_goals
        go_ret2
        exact ⟨by first | rfl | simp | (simp; omega), rfl⟩
    · have hd7 : ¬ (0 : Int) < (d : Int) := by omega
      have e1 : itemA q d 41 = (12, d) := by unfold itemA isNoteN; simp [hd6]
      rw [e1]
      have HC := risNote_ok 41 w (by omega)
      rw [show isNoteN 41 = false from rfl] at HC
      simp only [show ((41 : Nat) : Int) = 41 from rfl] at HC ⊢
      clear e1 hn1 hn
      go_enter Tryz.func107, Tryz.ntmps107
      go_wp2_with (go_at_call 146; refine HC.mono ?_; rintro e w' ⟨rfl, rfl⟩)
      all_goals
        go_ret2
        exact ⟨by first | rfl | simp | (simp; omega), rfl⟩
  by_cases h124 : c = 124
  · subst h124
    have e1 : itemA q d 124 = (0, d) := by unfold itemA isNoteN; simp
    rw [e1]
    have HC := risNote_ok 124 w (by omega)
    rw [show isNoteN 124 = false from rfl] at HC
    simp only [show ((124 : Nat) : Int) = 124 from rfl] at HC ⊢
    clear e1 hn1 hn
    go_enter Tryz.func107, Tryz.ntmps107
    go_wp2_with (go_at_call 146; refine HC.mono ?_; rintro e w' ⟨rfl, rfl⟩)
    all_goals
      go_ret2
      exact ⟨by first | rfl | simp | (simp; omega), rfl⟩
  by_cases h42 : c = 42
  · subst h42
    by_cases hq1 : q = 1
    · subst hq1
      have e1 : itemA 1 d 42 = (2, d) := by unfold itemA isNoteN; simp
      rw [e1]
      have HC := risNote_ok 42 w (by omega)
      rw [show isNoteN 42 = false from rfl] at HC
      simp only [show ((42 : Nat) : Int) = 42 from rfl] at HC ⊢
      clear e1 hn1 hn
      go_enter Tryz.func107, Tryz.ntmps107
      go_wp2_with (go_at_call 146; refine HC.mono ?_; rintro e w' ⟨rfl, rfl⟩)
      all_goals
        go_ret2
        exact ⟨by first | rfl | simp | (simp; omega), rfl⟩
    · have hq2 : ((q : Int) == 1) = false := by simp; omega
      have e1 : itemA q d 42 = (12, d) := by unfold itemA isNoteN; simp [hq1]
      rw [e1]
      have HC := risNote_ok 42 w (by omega)
      rw [show isNoteN 42 = false from rfl] at HC
      simp only [show ((42 : Nat) : Int) = 42 from rfl] at HC ⊢
      clear e1 hn1 hn
      go_enter Tryz.func107, Tryz.ntmps107
      go_wp2_with (go_at_call 146; refine HC.mono ?_; rintro e w' ⟨rfl, rfl⟩)
      all_goals
        go_ret2
        exact ⟨by first | rfl | simp | (simp; omega), rfl⟩
  by_cases h43 : c = 43
  · subst h43
    by_cases hq1 : q = 1
    · subst hq1
      have e1 : itemA 1 d 43 = (2, d) := by unfold itemA isNoteN; simp
      rw [e1]
      have HC := risNote_ok 43 w (by omega)
      rw [show isNoteN 43 = false from rfl] at HC
      simp only [show ((43 : Nat) : Int) = 43 from rfl] at HC ⊢
      clear e1 hn1 hn
      go_enter Tryz.func107, Tryz.ntmps107
      go_wp2_with (go_at_call 146; refine HC.mono ?_; rintro e w' ⟨rfl, rfl⟩)
      all_goals
        go_ret2
        exact ⟨by first | rfl | simp | (simp; omega), rfl⟩
    · have hq2 : ((q : Int) == 1) = false := by simp; omega
      have e1 : itemA q d 43 = (12, d) := by unfold itemA isNoteN; simp [hq1]
      rw [e1]
      have HC := risNote_ok 43 w (by omega)
      rw [show isNoteN 43 = false from rfl] at HC
      simp only [show ((43 : Nat) : Int) = 43 from rfl] at HC ⊢
      clear e1 hn1 hn
      go_enter Tryz.func107, Tryz.ntmps107
      go_wp2_with (go_at_call 146; refine HC.mono ?_; rintro e w' ⟨rfl, rfl⟩)
      all_goals
        go_ret2
        exact ⟨by first | rfl | simp | (simp; omega), rfl⟩
  by_cases h63 : c = 63
  · subst h63
    by_cases hq1 : q = 1
    · subst hq1
      have e1 : itemA 1 d 63 = (2, d) := by unfold itemA isNoteN; simp
      rw [e1]
      have HC := risNote_ok 63 w (by omega)
      rw [show isNoteN 63 = false from rfl] at HC
      simp only [show ((63 : Nat) : Int) = 63 from rfl] at HC ⊢
      clear e1 hn1 hn
      go_enter Tryz.func107, Tryz.ntmps107
      go_wp2_with (go_at_call 146; refine HC.mono ?_; rintro e w' ⟨rfl, rfl⟩)
      all_goals
        go_ret2
        exact ⟨by first | rfl | simp | (simp; omega), rfl⟩
    · have hq2 : ((q : Int) == 1) = false := by simp; omega
      have e1 : itemA q d 63 = (12, d) := by unfold itemA isNoteN; simp [hq1]
      rw [e1]
      have HC := risNote_ok 63 w (by omega)
      rw [show isNoteN 63 = false from rfl] at HC
      simp only [show ((63 : Nat) : Int) = 63 from rfl] at HC ⊢
      clear e1 hn1 hn
      go_enter Tryz.func107, Tryz.ntmps107
      go_wp2_with (go_at_call 146; refine HC.mono ?_; rintro e w' ⟨rfl, rfl⟩)
      all_goals
        go_ret2
        exact ⟨by first | rfl | simp | (simp; omega), rfl⟩
  by_cases h123 : c = 123
  · subst h123
    by_cases hq1 : q = 1
    · subst hq1
      have e1 : itemA 1 d 123 = (8, d) := by unfold itemA isNoteN; simp
      rw [e1]
      have HC := risNote_ok 123 w (by omega)
      rw [show isNoteN 123 = false from rfl] at HC
      simp only [show ((123 : Nat) : Int) = 123 from rfl] at HC ⊢
      clear e1 hn1 hn
      go_enter Tryz.func107, Tryz.ntmps107
      go_wp2_with (go_at_call 146; refine HC.mono ?_; rintro e w' ⟨rfl, rfl⟩)
      all_goals
        go_ret2
        exact ⟨by first | rfl | simp | (simp; omega), rfl⟩
    · have hq2 : ((q : Int) == 1) = false := by simp; omega
      have e1 : itemA q d 123 = (12, d) := by unfold itemA isNoteN; simp [hq1]
      rw [e1]
      have HC := risNote_ok 123 w (by omega)
      rw [show isNoteN 123 = false from rfl] at HC
      simp only [show ((123 : Nat) : Int) = 123 from rfl] at HC ⊢
      clear e1 hn1 hn
      go_enter Tryz.func107, Tryz.ntmps107
      go_wp2_with (go_at_call 146; refine HC.mono ?_; rintro e w' ⟨rfl, rfl⟩)
      all_goals
        go_ret2
        exact ⟨by first | rfl | simp | (simp; omega), rfl⟩
  have e1 : itemA q d c = (12, d) := by
    unfold itemA
    rw [hn1]
    simp [h46, h91, h40, h41, h124, h42, h43, h63, h123]
  rw [e1]
  have HC := risNote_ok c w hc
  rw [hn1] at HC
  have t46 : ((c : Int) == 46) = false := by simp; omega
  have t91 : ((c : Int) == 91) = false := by simp; omega
  have t40 : ((c : Int) == 40) = false := by simp; omega
  have t41 : ((c : Int) == 41) = false := by simp; omega
  have t124 : ((c : Int) == 124) = false := by simp; omega
  have t42 : ((c : Int) == 42) = false := by simp; omega
  have t43 : ((c : Int) == 43) = false := by simp; omega
  have t63 : ((c : Int) == 63) = false := by simp; omega
  have t123 : ((c : Int) == 123) = false := by simp; omega
  clear e1 hn1 hn h46 h91 h40 h41 h124 h42 h43 h63 h123
  by_cases hq1 : q = 1
  · subst hq1
    go_enter Tryz.func107, Tryz.ntmps107
    go_wp2_with (go_at_call 146; refine HC.mono ?_; rintro e w' ⟨rfl, rfl⟩)
    all_goals
      go_ret2
      exact ⟨by simp, rfl⟩
  · have hq2 : ((q : Int) == 1) = false := by simp; omega
    go_enter Tryz.func107, Tryz.ntmps107
    go_wp2_with (go_at_call 146; refine HC.mono ?_; rintro e w' ⟨rfl, rfl⟩)
    all_goals
      go_ret2
      exact ⟨by simp, rfl⟩
set_option maxRecDepth 20000 in
set_option maxHeartbeats 2000000 in
theorem rset_ok (q c : Nat) (w : World) (hc : c < 256) (hq : q ≤ 12) :
    Calls Tryz.prog 108 #[.int .i64 (q : Int), .int .u8 (c : Int)] w fun e w' => e = .returned (.int .i64 (setA q c : Int)) ∧ w = w' := by
  by_cases hn : 97 ≤ c ∧ c ≤ 104
  · have hn1 : isNoteN c = true := noteN_iff.2 hn
    have HC := risNote_ok c w hc
    rw [hn1] at HC
    have t94 : ((c : Int) == 94) = false := by simp; omega
    have h94 : (c == 94) = false := by simp; omega
    by_cases hq6 : q = 6
    · subst hq6
      have e1 : setA 6 c = 7 := by unfold setA; simp [hn1, h94]
      rw [e1]
      clear e1 hn1 hn h94
      go_enter Tryz.func108, Tryz.ntmps108
      go_wp2_with (go_at_call 146; refine HC.mono ?_; rintro e w' ⟨rfl, rfl⟩)
      all_goals
        go_ret
        exact ⟨by first | rfl | simp, rfl⟩
    · have hq7 : ((q : Int) == 6) = false := by simp; omega
      have e1 : setA q c = 5 := by unfold setA; simp [hn1, h94, hq6]
      rw [e1]
      clear e1 hn1 hn h94 hq6
      go_enter Tryz.func108, Tryz.ntmps108
      go_wp2_with (go_at_call 146; refine HC.mono ?_; rintro e w' ⟨rfl, rfl⟩)
      all_goals
        go_ret
        exact ⟨by first | rfl | simp, rfl⟩
  have hn1 : isNoteN c = false := noteN_no.2 (by omega)
  by_cases h94 : c = 94
  · subst h94
    by_cases hq3 : q = 3
    · subst hq3
      have e1 : setA 3 94 = 4 := by unfold setA isNoteN; simp
      rw [e1]
      have HC := risNote_ok 94 w (by omega)
      rw [show isNoteN 94 = false from rfl] at HC
      simp only [show ((94 : Nat) : Int) = 94 from rfl] at HC ⊢
      clear e1 hn1 hn
      go_enter Tryz.func108, Tryz.ntmps108
      go_wp2_with (go_at_call 146; refine HC.mono ?_; rintro e w' ⟨rfl, rfl⟩)
      all_goals
        go_ret
        exact ⟨by first | rfl | simp, rfl⟩
    · have hq4 : ((q : Int) == 3) = false := by simp; omega
      have e1 : setA q 94 = 12 := by unfold setA isNoteN; simp [hq3]
      rw [e1]
      have HC := risNote_ok 94 w (by omega)
      rw [show isNoteN 94 = false from rfl] at HC
      simp only [show ((94 : Nat) : Int) = 94 from rfl] at HC ⊢
      clear e1 hn1 hn
      go_enter Tryz.func108, Tryz.ntmps108
      go_wp2_with (go_at_call 146; refine HC.mono ?_; rintro e w' ⟨rfl, rfl⟩)
      all_goals
        go_ret
        exact ⟨by first | rfl | simp, rfl⟩
  by_cases h45 : c = 45
  · subst h45
    by_cases hq3 : q = 5
    · subst hq3
      have e1 : setA 5 45 = 6 := by unfold setA isNoteN; simp
      rw [e1]
      have HC := risNote_ok 45 w (by omega)
      rw [show isNoteN 45 = false from rfl] at HC
      simp only [show ((45 : Nat) : Int) = 45 from rfl] at HC ⊢
      clear e1 hn1 hn
      go_enter Tryz.func108, Tryz.ntmps108
      go_wp2_with (go_at_call 146; refine HC.mono ?_; rintro e w' ⟨rfl, rfl⟩)
      all_goals
        go_ret
        exact ⟨by first | rfl | simp, rfl⟩
    · have hq4 : ((q : Int) == 5) = false := by simp; omega
      have e1 : setA q 45 = 12 := by unfold setA isNoteN; simp [hq3]
      rw [e1]
      have HC := risNote_ok 45 w (by omega)
      rw [show isNoteN 45 = false from rfl] at HC
      simp only [show ((45 : Nat) : Int) = 45 from rfl] at HC ⊢
      clear e1 hn1 hn
      go_enter Tryz.func108, Tryz.ntmps108
      go_wp2_with (go_at_call 146; refine HC.mono ?_; rintro e w' ⟨rfl, rfl⟩)
      all_goals
        go_ret
        exact ⟨by first | rfl | simp, rfl⟩
  by_cases h93 : c = 93
  · subst h93
    by_cases hq3 : q = 5
    · subst hq3
      have e1 : setA 5 93 = 1 := by unfold setA isNoteN; simp
      rw [e1]
      have HC := risNote_ok 93 w (by omega)
      rw [show isNoteN 93 = false from rfl] at HC
      simp only [show ((93 : Nat) : Int) = 93 from rfl] at HC ⊢
      clear e1 hn1 hn
      go_enter Tryz.func108, Tryz.ntmps108
      go_wp2_with (go_at_call 146; refine HC.mono ?_; rintro e w' ⟨rfl, rfl⟩)
      all_goals
        go_ret
        exact ⟨by first | rfl | simp, rfl⟩
    · have hq4 : ((q : Int) == 5) = false := by simp; omega
      by_cases hq7 : q = 7
      · subst hq7
        have e1 : setA 7 93 = 1 := by unfold setA isNoteN; simp
        rw [e1]
        have HC := risNote_ok 93 w (by omega)
        rw [show isNoteN 93 = false from rfl] at HC
        simp only [show ((93 : Nat) : Int) = 93 from rfl] at HC ⊢
        clear e1 hn1 hn hq3
        go_enter Tryz.func108, Tryz.ntmps108
        go_wp2_with (go_at_call 146; refine HC.mono ?_; rintro e w' ⟨rfl, rfl⟩)
        all_goals
          go_ret
          exact ⟨by first | rfl | simp, rfl⟩
      · have hq8 : ((q : Int) == 7) = false := by simp; omega
        have e1 : setA q 93 = 12 := by unfold setA isNoteN; simp [hq3, hq7]
        rw [e1]
        have HC := risNote_ok 93 w (by omega)
        rw [show isNoteN 93 = false from rfl] at HC
        simp only [show ((93 : Nat) : Int) = 93 from rfl] at HC ⊢
        clear e1 hn1 hn
        go_enter Tryz.func108, Tryz.ntmps108
        go_wp2_with (go_at_call 146; refine HC.mono ?_; rintro e w' ⟨rfl, rfl⟩)
        all_goals
          go_ret
          exact ⟨by first | rfl | simp, rfl⟩
  have e1 : setA q c = 12 := by
    unfold setA
    rw [hn1]
    simp [h94, h45, h93]
  rw [e1]
  have HC := risNote_ok c w hc
  rw [hn1] at HC
  have t94 : ((c : Int) == 94) = false := by simp; omega
  have t45 : ((c : Int) == 45) = false := by simp; omega
  have t93 : ((c : Int) == 93) = false := by simp; omega
  clear e1 hn1 hn h94 h45 h93
  go_enter Tryz.func108, Tryz.ntmps108
  go_wp2_with (go_at_call 146; refine HC.mono ?_; rintro e w' ⟨rfl, rfl⟩)
  all_goals
    go_ret
    exact ⟨by first | rfl | simp, rfl⟩
set_option maxRecDepth 20000 in
set_option maxHeartbeats 2000000 in
theorem rmark_ok (q c : Nat) (w : World) (hc : c < 256) (hq : q ≤ 12) :
    Calls Tryz.prog 109 #[.int .i64 (q : Int), .int .u8 (c : Int)] w fun e w' => e = .returned (.int .i64 (markA q c : Int)) ∧ w = w' := by
  by_cases hn : 48 ≤ c ∧ c ≤ 57
  · have hn1 : isDigitN c = true := digitN_iff.2 hn
    have HC := risDigit_ok c w hc
    rw [hn1] at HC
    have t44 : ((c : Int) == 44) = false := by simp; omega
    have t125 : ((c : Int) == 125) = false := by simp; omega
    have h44 : (c == 44) = false := by simp; omega
    have h125 : (c == 125) = false := by simp; omega
    by_cases hq8 : q = 8
    · subst hq8
      have e1 : markA 8 c = 9 := by unfold markA; simp [hn1]
      rw [e1]
      clear e1 hn1 hn h44 h125
      go_enter Tryz.func109, Tryz.ntmps109
      go_wp2_with (go_at_call 110; refine HC.mono ?_; rintro e w' ⟨rfl, rfl⟩)
      all_goals
        go_ret
        exact ⟨by first | rfl | simp, rfl⟩
    · have hq9 : ((q : Int) == 8) = false := by simp; omega
      by_cases hq10 : q = 10
      · subst hq10
        have e1 : markA 10 c = 11 := by unfold markA; simp [hn1]
        rw [e1]
        clear e1 hn1 hn h44 h125 hq8
        go_enter Tryz.func109, Tryz.ntmps109
        go_wp2_with (go_at_call 110; refine HC.mono ?_; rintro e w' ⟨rfl, rfl⟩)
        all_goals
          go_ret
          exact ⟨by first | rfl | simp, rfl⟩
      · have hq11 : ((q : Int) == 10) = false := by simp; omega
        have e1 : markA q c = 12 := by unfold markA; simp [hn1, hq8, hq10, h44, h125]
        rw [e1]
        clear e1 hn1 hn h44 h125 hq8 hq10
        go_enter Tryz.func109, Tryz.ntmps109
        go_wp2_with (go_at_call 110; refine HC.mono ?_; rintro e w' ⟨rfl, rfl⟩)
        all_goals
          go_ret
          exact ⟨by first | rfl | simp, rfl⟩
  have hn1 : isDigitN c = false := digitN_no.2 (by omega)
  by_cases h44 : c = 44
  · subst h44
    by_cases hq3 : q = 9
    · subst hq3
      have e1 : markA 9 44 = 10 := by unfold markA isDigitN; simp
      rw [e1]
      have HC := risDigit_ok 44 w (by omega)
      rw [show isDigitN 44 = false from rfl] at HC
      simp only [show ((44 : Nat) : Int) = 44 from rfl] at HC ⊢
      clear e1 hn1 hn
      go_enter Tryz.func109, Tryz.ntmps109
      go_wp2_with (go_at_call 110; refine HC.mono ?_; rintro e w' ⟨rfl, rfl⟩)
      all_goals
        go_ret
        exact ⟨by first | rfl | simp, rfl⟩
    · have hq4 : ((q : Int) == 9) = false := by simp; omega
      have e1 : markA q 44 = 12 := by unfold markA isDigitN; simp [hq3]
      rw [e1]
      have HC := risDigit_ok 44 w (by omega)
      rw [show isDigitN 44 = false from rfl] at HC
      simp only [show ((44 : Nat) : Int) = 44 from rfl] at HC ⊢
      clear e1 hn1 hn
      go_enter Tryz.func109, Tryz.ntmps109
      go_wp2_with (go_at_call 110; refine HC.mono ?_; rintro e w' ⟨rfl, rfl⟩)
      all_goals
        go_ret
        exact ⟨by first | rfl | simp, rfl⟩
  by_cases h125 : c = 125
  · subst h125
    by_cases hq3 : q = 8
    · subst hq3
      have e1 : markA 8 125 = 12 := by unfold markA isDigitN; simp
      rw [e1]
      have HC := risDigit_ok 125 w (by omega)
      rw [show isDigitN 125 = false from rfl] at HC
      simp only [show ((125 : Nat) : Int) = 125 from rfl] at HC ⊢
      clear e1 hn1 hn
      go_enter Tryz.func109, Tryz.ntmps109
      go_wp2_with (go_at_call 110; refine HC.mono ?_; rintro e w' ⟨rfl, rfl⟩)
      all_goals
        go_ret
        exact ⟨by first | rfl | simp, rfl⟩
    · have hq4 : ((q : Int) != 8) = true := by simp; omega
      have e1 : markA q 125 = 2 := by unfold markA isDigitN; simp [hq3]
      rw [e1]
      have HC := risDigit_ok 125 w (by omega)
      rw [show isDigitN 125 = false from rfl] at HC
      simp only [show ((125 : Nat) : Int) = 125 from rfl] at HC ⊢
      clear e1 hn1 hn
      go_enter Tryz.func109, Tryz.ntmps109
      go_wp2_with (go_at_call 110; refine HC.mono ?_; rintro e w' ⟨rfl, rfl⟩)
      all_goals
        go_ret
        exact ⟨by first | rfl | simp, rfl⟩
  have e1 : markA q c = 12 := by
    unfold markA
    rw [hn1]
    simp [h44, h125]
  rw [e1]
  have HC := risDigit_ok c w hc
  rw [hn1] at HC
  have t44 : ((c : Int) == 44) = false := by simp; omega
  have t125 : ((c : Int) == 125) = false := by simp; omega
  clear e1 hn1 hn h44 h125
  go_enter Tryz.func109, Tryz.ntmps109
  go_wp2_with (go_at_call 110; refine HC.mono ?_; rintro e w' ⟨rfl, rfl⟩)
  all_goals
    go_ret
    exact ⟨by first | rfl | simp, rfl⟩
end Go.Proofs.YtpngikmcjkjdaaaGreatDoor
namespace Go.Proofs.YtpngikmcjkjdaaaGreatDoor
open Go.RowKit
set_option linter.unusedVariables false
set_option linter.unusedSimpArgs false
abbrev Bs := List UInt8
theorem bl_irrefl : ∀ x : Bs, Op.bytesLess x x = false
  | [] => rfl
  | a :: x => by simp [Op.bytesLess, bl_irrefl x]
theorem bl_cons (a b : UInt8) (x y : Bs) : Op.bytesLess (a :: x) (b :: y) = true ↔ a < b ∨ (a = b ∧ Op.bytesLess x y = true) := by
  simp [Op.bytesLess]
theorem bl_trans : ∀ x y z : Bs, Op.bytesLess x y = true → Op.bytesLess y z = true → Op.bytesLess x z = true
  | [], [], _, h, _ => by simp [Op.bytesLess] at h
  | [], _ :: _, [], _, h => by simp [Op.bytesLess] at h
  | [], _ :: _, _ :: _, _, _ => by simp [Op.bytesLess]
  | _ :: _, [], _, h, _ => by simp [Op.bytesLess] at h
  | _ :: _, _ :: _, [], _, h => by simp [Op.bytesLess] at h
  | a :: x, b :: y, c :: z, h1, h2 => by
    rw [bl_cons] at h1 h2 ⊢
    rcases h1 with h1 | ⟨rfl, h1⟩
    · rcases h2 with h2 | ⟨rfl, h2⟩
      · exact .inl (by simp only [UInt8.lt_iff_toNat_lt] at *; omega)
      · exact .inl h1
    · rcases h2 with h2 | ⟨rfl, h2⟩
      · exact .inl h2
      · exact .inr ⟨rfl, bl_trans x y z h1 h2⟩
theorem bl_tri : ∀ x y : Bs, Op.bytesLess x y = false → x ≠ y → Op.bytesLess y x = true
  | [], [], _, h => absurd rfl h
  | [], _ :: _, h, _ => by simp [Op.bytesLess] at h
  | _ :: _, [], _, _ => by simp [Op.bytesLess]
  | a :: x, b :: y, h, hne => by
    rw [Bool.eq_false_iff, ne_eq, bl_cons] at h
    rw [bl_cons]
    by_cases e : a = b
    · subst e
      refine .inr ⟨rfl, bl_tri x y (by rw [Bool.eq_false_iff]; exact fun h' => h (.inr ⟨rfl, h'⟩)) (fun e => hne (by rw [e]))⟩
    · left
      have h1 : ¬ a < b := fun h' => h (.inl h')
      have h2 : a.toNat ≠ b.toNat := fun h' => e (UInt8.toNat_inj.1 h')
      simp only [UInt8.lt_iff_toNat_lt] at *
      omega
theorem bl_asymm {x y : Bs} (h : Op.bytesLess x y = true) : Op.bytesLess y x = false := by
  rw [Bool.eq_false_iff]
  intro h'
  have := bl_trans _ _ _ h h'
  rw [bl_irrefl] at this
  cases this
def Srt (t : Nat → Bs) (n : Nat) : Prop := ∀ i j, i < j → j < n → Op.bytesLess (t i) (t j) = true
def lsb (s : ByteArray) : Bs := s.data.toList
theorem lsb_inj {a b : ByteArray} (h : lsb a = lsb b) : a = b := by
  cases a; cases b; simp only [lsb] at h; congr 1; exact Array.ext' h
theorem lsb_size (s : ByteArray) : (lsb s).length = s.size := by rw [lsb, Array.length_toList]; rfl
def less (a b : ByteArray) : Bool := Op.bytesLess a.toList b.toList
theorem less_def (a b : ByteArray) : less a b = Op.bytesLess (lsb a) (lsb b) := by rw [less, ByteArray.toList_eq, ByteArray.toList_eq]; rfl
theorem beq_str (a b : ByteArray) : (a.toList == b.toList) = decide (a = b) := by
  rw [ByteArray.toList_eq, ByteArray.toList_eq]
  by_cases h : a = b
  · subst h; simp
  · have : lsb a ≠ lsb b := fun e => h (lsb_inj e)
    simp only [h, decide_false, beq_eq_false_iff_ne, ne_eq]
    exact this
theorem less_trans {a b c : ByteArray} (h1 : less a b = true) (h2 : less b c = true) : less a c = true := by rw [less_def] at *; exact bl_trans _ _ _ h1 h2
def SrtB (t : Nat → ByteArray) (n : Nat) : Prop := ∀ i j, i < j → j < n → less (t i) (t j) = true
theorem SrtB.srt {t : Nat → ByteArray} {n : Nat} (h : SrtB t n) : Srt (fun i => lsb (t i)) n := fun i j h1 h2 => by rw [← less_def]; exact h i j h1 h2
structure IsPl (t : Nat → ByteArray) (n : Nat) (s : ByteArray) (p : Nat) : Prop where
  le : p ≤ n
  lo : ∀ j, j < p → less (t j) s = true
  at' : p < n → less (t p) s = false
section
variable {t : Nat → ByteArray} {n p : Nat} {s : ByteArray}
theorem IsPl.hi (h : IsPl t n s p) (hs : SrtB t n) (j : Nat) (h1 : p ≤ j) (h2 : j < n) : less (t j) s = false := by
  have h0 := h.at' (by omega)
  by_cases e : p = j
  · rw [← e]; exact h0
  · rw [Bool.eq_false_iff]
    intro h'
    have := less_trans (hs p j (by omega) h2) h'
    rw [h0] at this; cases this
def ins (t : Nat → ByteArray) (p : Nat) (s : ByteArray) : Nat → ByteArray := fun j => if j < p then t j else if j = p then s else t (j - 1)
end
open Classical in
def strs (l : List ByteArray) : List Value := l.map .string
theorem strs_snoc (l : List ByteArray) (s : ByteArray) : strs l ++ [.string s] = strs (l ++ [s]) := by simp [strs]
end Go.Proofs.YtpngikmcjkjdaaaGreatDoor
