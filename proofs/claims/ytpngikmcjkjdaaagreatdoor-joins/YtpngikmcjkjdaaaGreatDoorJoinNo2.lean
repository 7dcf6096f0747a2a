import Derived.Test.YtpngikmcjkjdaaaGreatDoorJoinNo
namespace Go.Proofs.YtpngikmcjkjdaaaGreatDoor
open Go.RowKit
set_option linter.unusedVariables false

set_option maxRecDepth 20000 in
set_option maxHeartbeats 1000000 in
theorem join_no (t u : RLay) (A C : Nat → Bool) (X Y : Nat → Nat → Int) (how budget : Int) (w : World) (hT : RawAt w t A X) (hU : RawAt w u C Y) (hne : joinErr t u X Y how budget ≠ 0) :
    Calls Tryz.prog 40 #[.agg #[.slice t.aa t.na t.ca, .slice t.an t.nn t.cn], .agg #[.slice u.aa u.na u.ca, .slice u.an u.nn u.cn], .int .i64 how, .int .i64 budget] w
      fun e w' => e = .returned (.tuple #[.agg #[.slice none 0 0, .slice none 0 0], .int .i64 (joinErr t u X Y how budget)]) ∧ Below w.heap.size w w' := by
  obtain ⟨W, hW⟩ : ∃ W, W = (((w.alloc (.cells #[.slice t.aa t.na t.ca, .slice t.an t.nn t.cn] 41)).alloc (.cells #[.slice u.aa u.na u.ca, .slice u.an u.nn u.cn] 41)).alloc (.cells #[.slice none 0 0, .slice none 0 0] 41)) := ⟨_, rfl⟩
  have BW : Below w.heap.size w W := by
    rw [hW]; exact (((Below.refl _ _).alloc (Nat.le_refl _) _).alloc (by simp) _).alloc (by simp; omega) _
  have hWs : W.heap.size = w.heap.size + 1 + 1 + 1 := by rw [hW]; simp
  have b2 : W.heap[w.heap.size + 1 + 1]? = some (.cells #[.slice none 0 0, .slice none 0 0] 41 (0, 0)) := by rw [hW]; exact heap_at_new (by simp)
  have HC := tjoin_no t u A C X Y how budget W (hT.below BW) (hU.below BW) hne
  clear hT hU hne
  go_enter Tryz.func40, Tryz.ntmps40
  go_wp2_with fail
  rw [← hW]
  clear hW
  refine HC.mono ?_
  rintro e w1 ⟨rfl, hB1⟩
  have a2 := (hB1.block _ (by omega)).trans b2
  have BW1 : Below w.heap.size w w1 := BW.trans (hB1.mono (by omega))
  have HF : Hid _ := below_res BW1 (b := w.heap.size + 1 + 1) (by omega) (.slice none 0 0) (.slice none 0 0)
  obtain ⟨q0, q1, p0, p1⟩ := cell_two a2
  clear HC hB1 b2
  go_wp2_with fail
  obtain ⟨r1, r2, r3⟩ := res_two (u := .slice none 0 0) (v := .slice none 0 0) a2
  refine bodyPost_ret (v := .tuple #[.agg #[.slice none 0 0, .slice none 0 0], .int .i64 (joinErr t u X Y how budget)]) (by simp [results, Tryz.results40, go_sem, r1, r2]) rfl ?_
  exact ⟨rfl, HF.out⟩
theorem joinErr_same (t : RLay) (X : Nat → Nat → Int) (how budget : Int) (hok : rawOk t X = false) : joinErr t t X X how budget = 6 := by simp [joinErr, hok]
theorem tjoin_same (t : RLay) (A : Nat → Bool) (X : Nat → Nat → Int) (w : World) (hT : RawAt w t A X) (hok : rawOk t X = false) : Calls Tryz.prog 81 #[.agg #[.slice t.aa t.na t.ca, .slice t.an t.nn t.cn], .agg #[.slice t.aa t.na t.ca, .slice t.an t.nn t.cn], .int .i64 0, .int .i64 40] w
      fun e w' => e = .returned (.tuple #[.agg #[.slice none 0 0, .slice none 0 0], .int .i64 6]) ∧ Below w.heap.size w w' := by
  have := tjoin_no t t A A X X 0 40 w hT hT (by rw [joinErr_same t X 0 40 hok]; decide)
  rw [joinErr_same t X 0 40 hok] at this
  exact this
set_option maxRecDepth 20000 in
set_option maxHeartbeats 1000000 in
theorem tleast_no (t : RLay) (A : Nat → Bool) (X : Nat → Nat → Int) (w : World) (hT : RawAt w t A X) (hok : rawOk t X = false) :
    Calls Tryz.prog 79 #[.agg #[.slice t.aa t.na t.ca, .slice t.an t.nn t.cn]] w
      fun e w' => e = .returned (.tuple #[.agg #[.slice none 0 0, .slice none 0 0], .int .i64 6]) ∧ Below w.heap.size w w' := by
  obtain ⟨W, hW⟩ : ∃ W, W = ((w.alloc (.cells #[.slice t.aa t.na t.ca, .slice t.an t.nn t.cn] 41)).alloc (.cells #[.slice none 0 0, .slice none 0 0] 41)) := ⟨_, rfl⟩
  have BW : Below w.heap.size w W := by
    rw [hW]; exact ((Below.refl _ _).alloc (Nat.le_refl _) _).alloc (by simp) _
  have hWs : W.heap.size = w.heap.size + 1 + 1 := by rw [hW]; simp
  have b2 : W.heap[w.heap.size + 1]? = some (.cells #[.slice none 0 0, .slice none 0 0] 41 (0, 0)) := by rw [hW]; exact heap_at_new (by simp)
  have HC := tjoin_same t A X W (hT.below BW) hok
  clear hT hok
  go_enter Tryz.func79, Tryz.ntmps79
  go_wp2_with fail
  rw [← hW]
  clear hW
  refine HC.mono ?_
  rintro e w1 ⟨rfl, hB1⟩
  have a2 := (hB1.block _ (by omega)).trans b2
  have BW1 : Below w.heap.size w w1 := BW.trans (hB1.mono (by omega))
  have HF : Hid _ := below_res BW1 (b := w.heap.size + 1) (by omega) (.slice none 0 0) (.slice none 0 0)
  obtain ⟨q0, q1, p0, p1⟩ := cell_two a2
  clear HC hB1 b2
  go_wp2_with fail
  obtain ⟨r1, r2, r3⟩ := res_two (u := .slice none 0 0) (v := .slice none 0 0) a2
  refine bodyPost_ret (v := .tuple #[.agg #[.slice none 0 0, .slice none 0 0], .int .i64 6]) (by simp [results, Tryz.results79, go_sem, r1, r2]) rfl ?_
  exact ⟨rfl, HF.out⟩
set_option maxRecDepth 20000 in
set_option maxHeartbeats 1000000 in
theorem least_no (t : RLay) (A : Nat → Bool) (X : Nat → Nat → Int) (w : World) (hT : RawAt w t A X) (hok : rawOk t X = false) :
    Calls Tryz.prog 36 #[.agg #[.slice t.aa t.na t.ca, .slice t.an t.nn t.cn]] w
      fun e w' => e = .returned (.tuple #[.agg #[.slice none 0 0, .slice none 0 0], .int .i64 6]) ∧ Below w.heap.size w w' := by
  obtain ⟨W, hW⟩ : ∃ W, W = ((w.alloc (.cells #[.slice t.aa t.na t.ca, .slice t.an t.nn t.cn] 41)).alloc (.cells #[.slice none 0 0, .slice none 0 0] 41)) := ⟨_, rfl⟩
  have BW : Below w.heap.size w W := by
    rw [hW]; exact ((Below.refl _ _).alloc (Nat.le_refl _) _).alloc (by simp) _
  have hWs : W.heap.size = w.heap.size + 1 + 1 := by rw [hW]; simp
  have b2 : W.heap[w.heap.size + 1]? = some (.cells #[.slice none 0 0, .slice none 0 0] 41 (0, 0)) := by rw [hW]; exact heap_at_new (by simp)
  have HC := tleast_no t A X W (hT.below BW) hok
  clear hT hok
  go_enter Tryz.func36, Tryz.ntmps36
  go_wp2_with fail
  rw [← hW]
  clear hW
  refine HC.mono ?_
  rintro e w1 ⟨rfl, hB1⟩
  have a2 := (hB1.block _ (by omega)).trans b2
  have BW1 : Below w.heap.size w w1 := BW.trans (hB1.mono (by omega))
  have HF : Hid _ := below_res BW1 (b := w.heap.size + 1) (by omega) (.slice none 0 0) (.slice none 0 0)
  obtain ⟨q0, q1, p0, p1⟩ := cell_two a2
  clear HC hB1 b2
  go_wp2_with fail
  obtain ⟨r1, r2, r3⟩ := res_two (u := .slice none 0 0) (v := .slice none 0 0) a2
  refine bodyPost_ret (v := .tuple #[.agg #[.slice none 0 0, .slice none 0 0], .int .i64 6]) (by simp [results, Tryz.results36, go_sem, r1, r2]) rfl ?_
  exact ⟨rfl, HF.out⟩
/-- A table as lists. -/
def Lay.raw (V : Lay) (n : Nat) : RLay := ⟨some ⟨V.ba, V.oa, none⟩, some ⟨V.bn, V.on, none⟩, n, V.ca, n, V.cn, fun i => some ⟨V.rb i, V.ro i, none⟩, fun _ => 8, V.rc⟩
theorem TabAt.raw {w : World} {V : Lay} {M : Tab} (h : TabAt w V M) (hM : M.Ok) : RawAt w (V.raw M.n) M.acc (fun i c => (M.nxt i c : Int)) := by
  have := hM.hi
  exact ⟨by simp only [Lay.raw]; omega, by simp only [Lay.raw]; omega, fun i hi => by simp only [Lay.raw]; omega, fun i hi => ⟨_, _, rfl, h.acc i hi⟩, fun i hi => ⟨_, _, rfl, h.row i hi⟩, fun i c hi hc => ⟨_, _, rfl, h.cel i c hi hc⟩⟩
theorem raw_ok {V : Lay} {M : Tab} (hM : M.Ok) : rawOk (V.raw M.n) (fun i c => (M.nxt i c : Int)) = true := by
  simp only [rawOk, Bool.and_eq_true, decide_eq_true_eq, rowsOk_iff]
  exact ⟨⟨hM.lo, hM.hi⟩, rfl, fun i hi => ⟨rfl, fun c hc => ⟨by omega, by have := hM.nx i c hi hc; show ((M.nxt i c : Nat) : Int) < (M.n : Nat); omega⟩⟩⟩
theorem tjoin_all (U : Lay) (t : RLay) (A : Nat → Bool) (X : Nat → Nat → Int) (w : World) (hT : RawAt w t A X) (hok : rawOk t X = false) (hU : TabAt w U allTab) : Calls Tryz.prog 81 #[.agg #[.slice (some ⟨U.ba, U.oa, none⟩) (1 : Nat) U.ca, .slice (some ⟨U.bn, U.on, none⟩) (1 : Nat) U.cn], .agg #[.slice t.aa t.na t.ca, .slice t.an t.nn t.cn], .int .i64 2, .int .i64 40] w
      fun e w' => e = .returned (.tuple #[.agg #[.slice none 0 0, .slice none 0 0], .int .i64 6]) ∧ Below w.heap.size w w' := by
  have e : joinErr (U.raw allTab.n) t (fun i c => (allTab.nxt i c : Int)) X 2 40 = 6 := by simp [joinErr, hok]
  have := tjoin_no (U.raw allTab.n) t _ A _ X 2 40 w (hU.raw allTab_ok) hT (by rw [e]; decide)
  rw [e] at this
  exact this
set_option maxRecDepth 20000 in
set_option maxHeartbeats 1000000 in
theorem tnot_no (t : RLay) (A : Nat → Bool) (X : Nat → Nat → Int) (w : World) (hT : RawAt w t A X) (hok : rawOk t X = false) :
    Calls Tryz.prog 80 #[.agg #[.slice t.aa t.na t.ca, .slice t.an t.nn t.cn]] w
      fun e w' => e = .returned (.tuple #[.agg #[.slice none 0 0, .slice none 0 0], .int .i64 6]) ∧ Below w.heap.size w w' := by
  obtain ⟨W, hW⟩ : ∃ W, W = (w.alloc (.cells #[.slice t.aa t.na t.ca, .slice t.an t.nn t.cn] 41)).alloc (.cells #[.slice none 0 0, .slice none 0 0] 41) := ⟨_, rfl⟩
  have BW : Below w.heap.size w W := by
    rw [hW]; exact ((Below.refl _ _).alloc (Nat.le_refl _) _).alloc (by simp) _
  have hWs : W.heap.size = w.heap.size + 1 + 1 := by rw [hW]; simp
  have b0 : W.heap[w.heap.size]? = some (.cells #[.slice t.aa t.na t.ca, .slice t.an t.nn t.cn] 41 (0, 0)) := by rw [hW]; exact heap_at_old (heap_at_new (by simp))
  have b2 : W.heap[w.heap.size + 1]? = some (.cells #[.slice none 0 0, .slice none 0 0] 41 (0, 0)) := by rw [hW]; exact heap_at_new (by simp)
  have hV0 := hT.below BW
  go_enter Tryz.func80, Tryz.ntmps80
  go_wp2_with fail
  rw [← hW]
  clear hW hT
  refine (everything_ok W).mono ?_
  rintro e w1 ⟨U, rfl, hU, hB1⟩
  have hs1 := hB1.size
  obtain ⟨W2, hW2⟩ : ∃ W2, W2 = w1.alloc (.cells #[.slice (some ⟨U.ba, U.oa, none⟩) 1 U.ca, .slice (some ⟨U.bn, U.on, none⟩) 1 U.cn] 41) := ⟨_, rfl⟩
  have hB2 : Below w1.heap.size w1 W2 := by rw [hW2]; exact (Below.refl _ _).alloc (Nat.le_refl _) _
  have hs2 := hB2.size
  have a0 := (hB1.block _ (by omega)).trans b0
  have a2 := (hB2.block _ (by omega)).trans ((hB1.block _ (by omega)).trans b2)
  have BW2 : Below w.heap.size w W2 := (BW.trans (hB1.mono (by omega))).trans (hB2.mono (by omega))
  have HC := tjoin_all U t A X W2 ((hV0.below hB1).below hB2) hok (hU.below hB2)
  clear hV0 hU hB1 hB2 b0 b2 BW hok
  obtain ⟨x0, x1, _, _⟩ := cell_two a0
  have hsa : w.heap.size < w1.heap.size := by omega
  rw [hW2] at HC
  go_wp2_with fail
  refine HC.mono ?_
  rw [← hW2]
  clear HC hW2
  rintro e w3 ⟨rfl, hB3⟩
  have a3 := (hB3.block _ (by omega)).trans a2
  have BW3 : Below w.heap.size w w3 := BW2.trans (hB3.mono (by omega))
  have HF : Hid _ := below_res BW3 (b := w.heap.size + 1) (by omega) (.slice none 0 0) (.slice none 0 0)
  obtain ⟨q0, q1, p0, p1⟩ := cell_two a3
  clear hB3 a2 x0 x1 a0
  go_wp2_with fail
  obtain ⟨r1, r2, r3⟩ := res_two (u := .slice none 0 0) (v := .slice none 0 0) a3
  refine bodyPost_ret (v := .tuple #[.agg #[.slice none 0 0, .slice none 0 0], .int .i64 6]) (by simp [results, Tryz.results80, go_sem, r1, r2]) rfl ?_
  exact ⟨rfl, HF.out⟩
set_option maxRecDepth 20000 in
set_option maxHeartbeats 1000000 in
theorem not_no (t : RLay) (A : Nat → Bool) (X : Nat → Nat → Int) (w : World) (hT : RawAt w t A X) (hok : rawOk t X = false) :
    Calls Tryz.prog 38 #[.agg #[.slice t.aa t.na t.ca, .slice t.an t.nn t.cn]] w
      fun e w' => e = .returned (.tuple #[.agg #[.slice none 0 0, .slice none 0 0], .int .i64 6]) ∧ Below w.heap.size w w' := by
  obtain ⟨W, hW⟩ : ∃ W, W = ((w.alloc (.cells #[.slice t.aa t.na t.ca, .slice t.an t.nn t.cn] 41)).alloc (.cells #[.slice none 0 0, .slice none 0 0] 41)) := ⟨_, rfl⟩
  have BW : Below w.heap.size w W := by
    rw [hW]; exact ((Below.refl _ _).alloc (Nat.le_refl _) _).alloc (by simp) _
  have hWs : W.heap.size = w.heap.size + 1 + 1 := by rw [hW]; simp
  have b2 : W.heap[w.heap.size + 1]? = some (.cells #[.slice none 0 0, .slice none 0 0] 41 (0, 0)) := by rw [hW]; exact heap_at_new (by simp)
  have HC := tnot_no t A X W (hT.below BW) hok
  clear hT hok
  go_enter Tryz.func38, Tryz.ntmps38
  go_wp2_with fail
  rw [← hW]
  clear hW
  refine HC.mono ?_
  rintro e w1 ⟨rfl, hB1⟩
  have a2 := (hB1.block _ (by omega)).trans b2
  have BW1 : Below w.heap.size w w1 := BW.trans (hB1.mono (by omega))
  have HF : Hid _ := below_res BW1 (b := w.heap.size + 1) (by omega) (.slice none 0 0) (.slice none 0 0)
  obtain ⟨q0, q1, p0, p1⟩ := cell_two a2
  clear HC hB1 b2
  go_wp2_with fail
  obtain ⟨r1, r2, r3⟩ := res_two (u := .slice none 0 0) (v := .slice none 0 0) a2
  refine bodyPost_ret (v := .tuple #[.agg #[.slice none 0 0, .slice none 0 0], .int .i64 6]) (by simp [results, Tryz.results38, go_sem, r1, r2]) rfl ?_
  exact ⟨rfl, HF.out⟩
end Go.Proofs.YtpngikmcjkjdaaaGreatDoor
