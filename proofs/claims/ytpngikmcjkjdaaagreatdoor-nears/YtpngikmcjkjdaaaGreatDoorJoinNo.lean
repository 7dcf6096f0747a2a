import Derived.Test.YtpngikmcjkjdaaaGreatDoorJoinArg
import Derived.Test.YtpngikmcjkjdaaaGreatDoorRaw
namespace Go.Proofs.YtpngikmcjkjdaaaGreatDoor
open Go.RowKit
set_option linter.unusedVariables false

/-- The error of Join ahead of its work; 0 if there is none. -/
def joinErr (t u : RLay) (X Y : Nat → Nat → Int) (how budget : Int) : Int :=
  if rawOk t X = false then 6 else if rawOk u Y = false then 6 else if how < 0 ∨ 3 < how then 8 else if budget < 1 ∨ 40 < budget then 8 else 0

set_option maxRecDepth 20000 in
set_option maxHeartbeats 2000000 in
theorem tjoin_no1 (t u : RLay) (A C : Nat → Bool) (X Y : Nat → Nat → Int) (how budget : Int) (w : World) (hT : RawAt w t A X) (hU : RawAt w u C Y)
    (hb2 : rawOk t X = false ∨ rawOk u Y = false ∨ how < 0 ∨ 3 < how) :
    Calls Tryz.prog 81 #[.agg #[.slice t.aa t.na t.ca, .slice t.an t.nn t.cn], .agg #[.slice u.aa u.na u.ca, .slice u.an u.nn u.cn], .int .i64 how, .int .i64 budget] w
      fun e w' => e = .returned (.tuple #[.agg #[.slice none 0 0, .slice none 0 0], .int .i64 (joinErr t u X Y how budget)]) ∧ Below w.heap.size w w' := by
  obtain ⟨W, hW⟩ : ∃ W, W = ((w.alloc (.cells #[.slice t.aa t.na t.ca, .slice t.an t.nn t.cn] 41)).alloc (.cells #[.slice u.aa u.na u.ca, .slice u.an u.nn u.cn] 41)).alloc
      (.cells #[.slice none 0 0, .slice none 0 0] 41) := ⟨_, rfl⟩
  have BW : Below w.heap.size w W := by
    rw [hW]; exact (((Below.refl _ _).alloc (Nat.le_refl _) _).alloc (by simp) _).alloc (by simp; omega) _
  have hWs : W.heap.size = w.heap.size + 1 + 1 + 1 := by rw [hW]; simp
  have b0 : W.heap[w.heap.size]? = some (.cells #[.slice t.aa t.na t.ca, .slice t.an t.nn t.cn] 41 (0, 0)) := by rw [hW]; exact heap_at_old (heap_at_old (heap_at_new (by simp)))
  have b1 : W.heap[w.heap.size + 1]? = some (.cells #[.slice u.aa u.na u.ca, .slice u.an u.nn u.cn] 41 (0, 0)) := by rw [hW]; exact heap_at_old (heap_at_new (by simp))
  have b2 : W.heap[w.heap.size + 1 + 1]? = some (.cells #[.slice none 0 0, .slice none 0 0] 41 (0, 0)) := by rw [hW]; exact heap_at_new (by simp)
  have HV := valid_any t A X W (hT.below BW)
  have hU0 := hU.below BW
  obtain ⟨x0, x1, _, _⟩ := cell_two b0
  go_enter Tryz.func81, Tryz.ntmps81
  go_wp2_with fail
  rw [← hW]
  clear hW
  refine HV.mono ?_
  rintro e w1 ⟨rfl, hB1⟩
  have a1 := (hB1.block _ (by omega)).trans b1
  have a2 := (hB1.block _ (by omega)).trans b2
  have hs1 := hB1.size
  have hU1 := hU0.below hB1
  have BW1 : Below w.heap.size w w1 := BW.trans (hB1.mono (by omega))
  clear x0 x1 b0 b1 b2 hB1 hU0 BW HV hT hU
  have HV := valid_any u C Y w1 hU1
  clear hU1
  cases hok : rawOk t X
  · have ee : joinErr t u X Y how budget = 6 := by simp [joinErr, hok]
    have EE : Hid (joinErr t u X Y how budget = _) := ee
    clear ee hb2 hok HV a1
    obtain ⟨q0, q1, p0, p1⟩ := cell_two a2
    have hsa : w.heap.size + 1 + 1 < w1.heap.size := by omega
    go_wp2_with fail
    obtain ⟨_, r2, r1⟩ := res_two (u := .slice none 0 0) (v := .slice none 0 0) a2
    refine bodyPost_ret (v := .tuple #[.agg #[.slice none 0 0, .slice none 0 0], .int .i64 6]) (by simp [results, Tryz.results81, go_sem, r1, r2]) rfl ?_
    have hBe := below_res BW1 (b := w.heap.size + 1 + 1) (by omega) (.slice none 0 0) (.slice none 0 0)
    exact ⟨by rw [EE.out], hBe⟩
  · cases hok2 : rawOk u Y
    · have ee : joinErr t u X Y how budget = 6 := by simp [joinErr, hok, hok2]
      have EE : Hid (joinErr t u X Y how budget = _) := ee
      rw [hok2] at HV
      clear ee hb2 hok hok2
      obtain ⟨x2, x3, _, _⟩ := cell_two a1
      go_wp2_with fail
      refine HV.mono ?_
      rintro e w2 ⟨rfl, hB2⟩
      have b2 := (hB2.block _ (by omega)).trans a2
      have hs2 := hB2.size
      have BW2 : Below w.heap.size w w2 := BW1.trans (hB2.mono (by omega))
      clear x2 x3 a1 a2 hB2 HV BW1
      obtain ⟨q0, q1, p0, p1⟩ := cell_two b2
      have hsa : w.heap.size + 1 + 1 < w2.heap.size := by omega
      go_wp2_with fail
      obtain ⟨_, r2, r1⟩ := res_two (u := .slice none 0 0) (v := .slice none 0 0) b2
      refine bodyPost_ret (v := .tuple #[.agg #[.slice none 0 0, .slice none 0 0], .int .i64 6]) (by simp [results, Tryz.results81, go_sem, r1, r2]) rfl ?_
      have hBe := below_res BW2 (b := w.heap.size + 1 + 1) (by omega) (.slice none 0 0) (.slice none 0 0)
      exact ⟨by rw [EE.out], hBe⟩
    · rw [hok2] at HV
      by_cases h0 : how < 0
      · have ee : joinErr t u X Y how budget = 8 := by simp [joinErr, hok, hok2, h0]
        have EE : Hid (joinErr t u X Y how budget = _) := ee
        clear ee hb2 hok hok2
        obtain ⟨x2, x3, _, _⟩ := cell_two a1
        go_wp2_with fail
        refine HV.mono ?_
        rintro e w2 ⟨rfl, hB2⟩
        have b2 := (hB2.block _ (by omega)).trans a2
        have hs2 := hB2.size
        have BW2 : Below w.heap.size w w2 := BW1.trans (hB2.mono (by omega))
        clear x2 x3 a1 a2 hB2 HV BW1
        obtain ⟨q0, q1, p0, p1⟩ := cell_two b2
        have hsa : w.heap.size + 1 + 1 < w2.heap.size := by omega
        go_wp2_with fail
        obtain ⟨_, r2, r1⟩ := res_two (u := .slice none 0 0) (v := .slice none 0 0) b2
        refine bodyPost_ret (v := .tuple #[.agg #[.slice none 0 0, .slice none 0 0], .int .i64 8]) (by simp [results, Tryz.results81, go_sem, r1, r2]) rfl ?_
        have hBe := below_res BW2 (b := w.heap.size + 1 + 1) (by omega) (.slice none 0 0) (.slice none 0 0)
        exact ⟨by rw [EE.out], hBe⟩
      · by_cases h3 : 3 < how
        · have ee : joinErr t u X Y how budget = 8 := by simp [joinErr, hok, hok2, h3]
          have EE : Hid (joinErr t u X Y how budget = _) := ee
          clear ee hb2 hok hok2
          obtain ⟨x2, x3, _, _⟩ := cell_two a1
          go_wp2_with fail
          refine HV.mono ?_
          rintro e w2 ⟨rfl, hB2⟩
          have b2 := (hB2.block _ (by omega)).trans a2
          have hs2 := hB2.size
          have BW2 : Below w.heap.size w w2 := BW1.trans (hB2.mono (by omega))
          clear x2 x3 a1 a2 hB2 HV BW1
          obtain ⟨q0, q1, p0, p1⟩ := cell_two b2
          have hsa : w.heap.size + 1 + 1 < w2.heap.size := by omega
          go_wp2_with fail
          obtain ⟨_, r2, r1⟩ := res_two (u := .slice none 0 0) (v := .slice none 0 0) b2
          refine bodyPost_ret (v := .tuple #[.agg #[.slice none 0 0, .slice none 0 0], .int .i64 8]) (by simp [results, Tryz.results81, go_sem, r1, r2]) rfl ?_
          have hBe := below_res BW2 (b := w.heap.size + 1 + 1) (by omega) (.slice none 0 0) (.slice none 0 0)
          exact ⟨by rw [EE.out], hBe⟩
        · exact absurd hb2 (by simp [hok, hok2]; omega)

theorem tjoin_no (t u : RLay) (A C : Nat → Bool) (X Y : Nat → Nat → Int) (how budget : Int) (w : World) (hT : RawAt w t A X) (hU : RawAt w u C Y)
    (hne : joinErr t u X Y how budget ≠ 0) :
    Calls Tryz.prog 81 #[.agg #[.slice t.aa t.na t.ca, .slice t.an t.nn t.cn], .agg #[.slice u.aa u.na u.ca, .slice u.an u.nn u.cn], .int .i64 how, .int .i64 budget] w
      fun e w' => e = .returned (.tuple #[.agg #[.slice none 0 0, .slice none 0 0], .int .i64 (joinErr t u X Y how budget)]) ∧ Below w.heap.size w w' := by
  by_cases hb2 : rawOk t X = false ∨ rawOk u Y = false ∨ how < 0 ∨ 3 < how
  · exact tjoin_no1 t u A C X Y how budget w hT hU hb2
  · have h1 : rawOk t X = true := by cases h : rawOk t X <;> simp_all
    have h2 : rawOk u Y = true := by cases h : rawOk u Y <;> simp_all
    have h3 : ¬ how < 0 := fun h => hb2 (.inr (.inr (.inl h)))
    have h4 : ¬ 3 < how := fun h => hb2 (.inr (.inr (.inr h)))
    have hb : budget < 1 ∨ 40 < budget := by
      by_cases hb : budget < 1 ∨ 40 < budget
      · exact hb
      · exact absurd (by simp only [joinErr, h1, h2]; rw [if_neg (by decide), if_neg (by decide), if_neg (by omega), if_neg hb]) hne
    have ee : joinErr t u X Y how budget = 8 := by simp only [joinErr, h1, h2]; rw [if_neg (by decide), if_neg (by decide), if_neg (by omega), if_pos hb]
    obtain ⟨V, eV, hV⟩ := rawTab_at hT h1
    obtain ⟨U, eU, hU'⟩ := rawTab_at hU h2
    simp only [RLay.val] at eV eU
    rw [eV, eU, ee]
    exact tjoin_arg V U (rawTab t A X) (rawTab u C Y) how budget w (rawTab_ok h1) (rawTab_ok h2) hV hU' (by omega) (by omega) hb
end Go.Proofs.YtpngikmcjkjdaaaGreatDoor
