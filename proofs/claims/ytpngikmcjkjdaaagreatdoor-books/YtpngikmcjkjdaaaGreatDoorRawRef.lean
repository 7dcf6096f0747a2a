import Derived.Test.YtpngikmcjkjdaaaGreatDoorRaw
namespace Go.Proofs.YtpngikmcjkjdaaaGreatDoor
open Go.RowKit
set_option linter.unusedVariables false

set_option maxRecDepth 20000 in
set_option maxHeartbeats 1600000 in
theorem isTable_any (r : RLay) (A : Nat → Bool) (X : Nat → Nat → Int) (w : World) (h : RawAt w r A X) :
    Calls Tryz.prog 75 #[.agg #[.slice r.aa r.na r.ca, .slice r.an r.nn r.cn]] w fun e w' => e = .returned (.bool (rawOk r X)) ∧ Below w.heap.size w w' := by
  have hla := h.la
  have hln := h.ln
  obtain ⟨W, hW⟩ : ∃ W, W = w.alloc (.cells #[.slice r.aa r.na r.ca, .slice r.an r.nn r.cn] 41) := ⟨_, rfl⟩
  have B1 : Below w.heap.size w W := by rw [hW]; exact (Below.refl _ _).alloc (Nat.le_refl _) _
  have b0 : W.heap[w.heap.size]? = some (.cells #[.slice r.aa r.na r.ca, .slice r.an r.nn r.cn] 41 (0, 0)) := by rw [hW]; exact heap_at_new (by simp)
  obtain ⟨x0, x1, _, _⟩ := cell_two b0
  by_cases hlo : 1 ≤ r.nn
  · by_cases hhi : r.nn ≤ 40
    · by_cases hna : r.na = r.nn
      · have e : rawOk r X = rowsOk r X r.nn := by simp [rawOk, hlo, hhi, hna]
        rw [e]
        have h1 := h.below B1
        have hb : ((r.na : Int) != (r.nn : Int)) = false := by simp [hna]
        have hb2 : ((r.na : Int) == (r.nn : Int)) = true := by simp [hna]
        clear e h hna b0
        go_enter Tryz.func75, Tryz.ntmps75
        go_wp2_with fail
        rw [← hW]
        clear hW
        go_loop [4] (fun i => ∃ k : Nat, k ≤ r.nn ∧ i = .int .i64 k ∧ rowsOk r X k = true) (fun i => r.nn - (intOf i).toNat)
        case atStart => exact ⟨0, by omega, rfl, rfl⟩
        case round =>
          obtain ⟨k, hk, rfl, hro⟩ := hrel
          by_cases hlt : k < r.nn
          · obtain ⟨b, o, ean, hc⟩ := h1.row k hlt
            have hrl := h1.lr k hlt
            have hce := fun c => h1.cel k c hlt
            have hs : rowsOk r X (k + 1) = (decide (r.rl k = 8) && rowOk (X k) r.nn 8) := by simp [rowsOk, hro]
            clear h1
            by_cases h8 : r.rl k = 8
            · obtain ⟨b2, o2, era, _⟩ := hce 0 (by omega)
              have hcc : ∀ c, c < 8 → W.cell? ⟨b2, o2 + c, none⟩ = some (.int .i64 (X k c)) := fun c hc8 => by
                obtain ⟨b3, o3, e3, hc3⟩ := hce c (by omega)
                rw [era] at e3; cases e3; exact hc3
              rw [h8, era] at hc
              have HS2 : Hid (rowsOk r X (k + 1) = rowOk (X k) r.nn 8) := by unfold Hid; rw [hs]; simp [h8]
              have HCC : Hid (∀ c, c < 8 → W.cell? ⟨b2, o2 + c, none⟩ = some (.int .i64 (X k c))) := hcc
              generalize r.an = an at *
              subst ean
              clear hs hro hce hcc
              go_wp2_with fail
              go_loop [5] (fun c' => ∃ c : Nat, c ≤ 8 ∧ c' = .int .i64 c ∧ rowOk (X k) r.nn c = true) (fun c' => 8 - (intOf c').toNat)
              case atStart => exact ⟨0, by omega, rfl, rfl⟩
              case round =>
                obtain ⟨c, hc8, rfl, hrc⟩ := hrel
                by_cases hl8 : c < 8
                · have z1 := HCC.out c hl8
                  have hsc : rowOk (X k) r.nn (c + 1) = (decide (0 ≤ X k c) && decide (X k c < r.nn)) := by simp [rowOk, hrc]
                  by_cases h0 : X k c < 0
                  · have HF : Hid (rowsOk r X r.nn = false) := rowsOk_mono r X (k + 1) _ (by omega) (by rw [HS2.out]; exact rowOk_mono _ _ (c + 1) 8 (by omega) (by rw [hsc]; simp; omega))
                    clear hsc hrc
                    generalize X k c = xv at *
                    go_wp2_with fail
                    go_ret
                    exact ⟨ret_bool HF.out.symm, B1⟩
                  · by_cases hn : X k c < r.nn
                    · have HF : Hid (rowOk (X k) r.nn (c + 1) = true) := by unfold Hid; rw [hsc]; simp; omega
                      clear hsc hrc
                      generalize X k c = xv at *
                      go_wp2_with fail
                      go_round
                      case rel => exact ⟨c + 1, by omega, by go_num, HF.out⟩
                      case measure => simp [intOf]; omega
                    · have HF : Hid (rowsOk r X r.nn = false) := rowsOk_mono r X (k + 1) _ (by omega) (by rw [HS2.out]; exact rowOk_mono _ _ (c + 1) 8 (by omega) (by rw [hsc]; simp; omega))
                      clear hsc hrc
                      generalize X k c = xv at *
                      go_wp2_with fail
                      go_ret
                      exact ⟨ret_bool HF.out.symm, B1⟩
                · have he : c = 8 := by omega
                  subst he
                  have HF : Hid (rowsOk r X (k + 1) = true) := by unfold Hid; rw [HS2.out]; exact hrc
                  clear hrc
                  go_wp2_with fail
                  go_round
                  case rel => exact ⟨k + 1, by omega, by go_num, HF.out⟩
                  case measure => simp [intOf]; omega
            · have HF : Hid (rowsOk r X r.nn = false) := rowsOk_mono r X (k + 1) _ (by omega) (by rw [hs]; simp [h8])
              generalize r.an = an at *
              subst ean
              have hb8 : ((r.rl k : Int) != 8) = true := by simp; omega
              clear hs hro hce
              go_wp2_with fail
              go_ret
              exact ⟨ret_bool HF.out.symm, B1⟩
          · have e : k = r.nn := by omega
            subst e
            have HF : Hid (rowsOk r X r.nn = true) := hro
            clear hro h1
            go_wp2_with fail
            go_ret
            exact ⟨ret_bool HF.out.symm, B1⟩
      · have e : rawOk r X = false := by simp [rawOk, hna]
        rw [e]
        have hb : ((r.na : Int) == (r.nn : Int)) = false := by simp; omega
        have hb2 : ((r.na : Int) != (r.nn : Int)) = true := by simp; omega
        clear e h b0
        go_enter Tryz.func75, Tryz.ntmps75
        go_wp2_with fail
        rw [← hW]
        go_ret
        exact ⟨rfl, B1⟩
    · have e : rawOk r X = false := by simp [rawOk, hhi]
      rw [e]
      clear e h b0
      go_enter Tryz.func75, Tryz.ntmps75
      go_wp2_with fail
      rw [← hW]
      go_ret
      exact ⟨rfl, B1⟩
  · have e : rawOk r X = false := by simp [rawOk, hlo]
    rw [e]
    have hz : r.nn < 1 := by omega
    clear e h b0
    go_enter Tryz.func75, Tryz.ntmps75
    go_wp2_with fail
    rw [← hW]
    go_ret
    exact ⟨rfl, B1⟩
end Go.Proofs.YtpngikmcjkjdaaaGreatDoor
