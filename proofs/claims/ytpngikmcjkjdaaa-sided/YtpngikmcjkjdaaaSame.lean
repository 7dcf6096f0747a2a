import Derived.Test.YtpngikmcjkjdaaaJoin
namespace Go.Proofs.Ytpngikmcjkjdaaa
open Go.RowKit
set_option linter.unusedVariables false

set_option maxRecDepth 20000 in
set_option maxHeartbeats 2000000 in
theorem same_ok (V U : Lay) (M N : Tab) (w : World) (hM : M.Ok) (hN : N.Ok) (hV : TabAt w V M) (hU : TabAt w U N) :
    Calls Try.prog 12 #[.agg #[.slice (some ⟨V.ba, V.oa, none⟩) M.n V.ca, .slice (some ⟨V.bn, V.on, none⟩) M.n V.cn], .agg #[.slice (some ⟨U.ba, U.oa, none⟩) N.n U.ca, .slice (some ⟨U.bn, U.on, none⟩) N.n U.cn]] w
      fun e w' => ∃ sb : Bool, e = .returned (.bool sb) ∧ (sb = true ↔ SameTab M N) ∧ Below w.heap.size w w' := by
  have l1 := hM.lo
  have l2 := hM.hi
  have l3 := hN.lo
  have l4 := hN.hi
  obtain ⟨W, hW⟩ : ∃ W, W = (w.alloc (.cells #[.slice (some ⟨V.ba, V.oa, none⟩) M.n V.ca, .slice (some ⟨V.bn, V.on, none⟩) M.n V.cn] 26)).alloc (.cells #[.slice (some ⟨U.ba, U.oa, none⟩) N.n U.ca, .slice (some ⟨U.bn, U.on, none⟩) N.n U.cn] 26) := ⟨_, rfl⟩
  have BW : Below w.heap.size w W := by
    rw [hW]; exact ((Below.refl _ _).alloc (Nat.le_refl _) _).alloc (by simp) _
  have b0 : W.heap[w.heap.size]? = some (.cells #[.slice (some ⟨V.ba, V.oa, none⟩) M.n V.ca, .slice (some ⟨V.bn, V.on, none⟩) M.n V.cn] 26 (0, 0)) := by rw [hW]; exact heap_at_old (heap_at_new (by simp))
  have b1 : W.heap[w.heap.size + 1]? = some (.cells #[.slice (some ⟨U.ba, U.oa, none⟩) N.n U.ca, .slice (some ⟨U.bn, U.on, none⟩) N.n U.cn] 26 (0, 0)) := by rw [hW]; exact heap_at_new (by simp)
  obtain ⟨x0, x1, _, _⟩ := cell_two b0
  obtain ⟨x2, x3, _, _⟩ := cell_two b1
  have hV0 := hV.below BW
  have hU0 := hU.below BW
  have e0 : ((M.n : Int) == 0) = false := by simp; omega
  by_cases hn : M.n = N.n
  · have ho : N.Ok := hN
    obtain ⟨n, HN⟩ : ∃ n, Hid (M.n = n) := ⟨_, rfl⟩
    have HN2 : Hid (N.n = n) := by unfold Hid; rw [← hn]; exact HN.out
    have hv : ∀ i, i < n → W.cell? ⟨V.ba, V.oa + i, none⟩ = some (.bool (M.acc i)) := fun i hi => hV0.acc i (by rw [HN.out]; exact hi)
    have hvr : ∀ i, i < n → W.cell? ⟨V.bn, V.on + i, none⟩ = some (.slice (some ⟨V.rb i, V.ro i, none⟩) 8 (V.rc i)) := fun i hi => hV0.row i (by rw [HN.out]; exact hi)
    have hvc : ∀ i c, i < n → c < 8 → W.cell? ⟨V.rb i, V.ro i + c, none⟩ = some (.int .i64 (M.nxt i c)) := fun i c hi hc => hV0.cel i c (by rw [HN.out]; exact hi) hc
    have hu : ∀ i, i < n → W.cell? ⟨U.ba, U.oa + i, none⟩ = some (.bool (N.acc i)) := fun i hi => hU0.acc i (by rw [HN2.out]; exact hi)
    have hur : ∀ i, i < n → W.cell? ⟨U.bn, U.on + i, none⟩ = some (.slice (some ⟨U.rb i, U.ro i, none⟩) 8 (U.rc i)) := fun i hi => hU0.row i (by rw [HN2.out]; exact hi)
    have huc : ∀ i c, i < n → c < 8 → W.cell? ⟨U.rb i, U.ro i + c, none⟩ = some (.int .i64 (N.nxt i c)) := fun i c hi hc => hU0.cel i c (by rw [HN2.out]; exact hi) hc
    have HST : Hid (SameTab M N ↔ ((∀ i, i < n → M.acc i = N.acc i) ∧ ∀ i c, i < n → c < 8 → M.nxt i c = N.nxt i c)) := by
      constructor
      · intro h; exact ⟨fun i hi => h.acc i (by rw [HN.out]; exact hi), fun i c hi hc => h.nxt i c (by rw [HN.out]; exact hi) hc⟩
      · intro h; exact ⟨hn, fun i hi => h.1 i (by rw [← HN.out]; exact hi), fun i c hi hc => h.2 i c (by rw [← HN.out]; exact hi) hc⟩
    rw [HN2.out] at x2 x3 l3 l4 hW ⊢
    rw [HN.out] at x0 x1 l1 l2 e0 hW ⊢
    clear hV0 hU0 hV hU ho hN hM hn b0 b1
    go_enter Try.func12, Try.ntmps12
    go_wp2_with fail
    rw [← hW]
    clear hW
    go_loopw [5] (fun i' wr => ∃ i q : Nat, i ≤ n ∧ i' = .int .i64 i ∧ (∀ j, j < i → M.acc j = N.acc j ∧ ∀ c, c < 8 → M.nxt j c = N.nxt j c) ∧ wr = W.drewN q)
      (fun i' _ => n - (intOf i').toNat)
    case atStart => exact ⟨0, 0, by omega, rfl, fun j hj => absurd hj (by omega), rfl⟩
    case round =>
      obtain ⟨i, q, hi, rfl, hsame, rfl⟩ := hrel
      have HS : Hid (∀ j, j < i → M.acc j = N.acc j ∧ ∀ c, c < 8 → M.nxt j c = N.nxt j c) := hsame
      clear hsame
      by_cases hlt : i < n
      · have y0 := hv i hlt
        have y1 := hvr i hlt
        have y2 := hu i hlt
        have y3 := hur i hlt
        have z1 := hvc i
        have z2 := huc i
        clear hv hvr hvc hu hur huc
        by_cases ha : M.acc i = N.acc i
        · rw [ha] at y0
          have HA : Hid (M.acc i = N.acc i) := ha
          have hb : (N.acc i != N.acc i) = false := by simp
          clear ha
          go_wp2_with fail
          go_quiet (fail)
          go_wp2_with fail
          clear y0 y2
          go_loopw [6] (fun c' wr => ∃ c q : Nat, c ≤ 8 ∧ c' = .int .i64 c ∧ (∀ d, d < c → M.nxt i d = N.nxt i d) ∧ wr = W.drewN q)
            (fun c' _ => 8 - (intOf c').toNat)
          case atStart => exact ⟨0, _, by omega, rfl, fun d hd => absurd hd (by omega), by first | rfl | (simp; rfl)⟩
          case round =>
            obtain ⟨c, q2, hc, rfl, hrow, rfl⟩ := hrel
            have HRW : Hid (∀ d, d < c → M.nxt i d = N.nxt i d) := hrow
            clear hrow
            by_cases hl8 : c < 8
            · have c1 := z1 c hlt hl8
              have c2 := z2 c hlt hl8
              clear z1 z2
              by_cases hx : M.nxt i c = N.nxt i c
              · rw [hx] at c1
                have HX : Hid (M.nxt i c = N.nxt i c) := hx
                clear hx
                go_wp2_with fail
                go_quiet (fail)
                go_wp2_with fail
                go_roundw
                case rel =>
                  refine ⟨c + 1, _, by omega, by go_num, ?_, by first | rfl | (simp; rfl)⟩
                  intro d hd
                  by_cases e : d = c
                  · subst e; exact HX.out
                  · exact HRW.out d (by omega)
                case measure => simp [intOf]; omega
              · have hb : (((M.nxt i c : Nat) : Int) == ((N.nxt i c : Nat) : Int)) = false := by simp; omega
                have HX : Hid (¬ M.nxt i c = N.nxt i c) := hx
                clear hx
                go_wp2_with fail
                go_quiet (fail)
                go_wp2_with fail
                go_ret
                exact ⟨false, rfl, ⟨fun h => (by cases h), fun h => absurd ((HST.out.1 h).2 i c hlt hl8) HX.out⟩, by simp only [World.drewN_drewN]; exact below_drewN BW _⟩
            · have he : c = 8 := by omega
              subst he
              clear z1 z2 y1 y3
              go_wp2_with fail
              go_roundw
              case rel =>
                refine ⟨i + 1, _, by omega, by go_num, ?_, rfl⟩
                intro j hj
                by_cases e : j = i
                · subst e; exact ⟨HA.out, HRW.out⟩
                · exact HS.out j (by omega)
              case measure => simp [intOf]; omega
        · have hb : (M.acc i == N.acc i) = false := by simp [ha]
          have HA : Hid (¬ M.acc i = N.acc i) := ha
          clear ha z1 z2
          go_wp2_with fail
          go_quiet (fail)
          go_wp2_with fail
          go_ret
          exact ⟨false, rfl, ⟨fun h => (by cases h), fun h => absurd ((HST.out.1 h).1 i hlt) HA.out⟩, by simp only [World.drewN_drewN]; exact below_drewN BW _⟩
      · have he : i = n := by omega
        subst he
        clear hv hvr hvc hu hur huc
        go_wp2_with fail
        go_ret
        exact ⟨true, rfl, ⟨fun _ => HST.out.2 ⟨fun j hj => (HS.out j hj).1, fun j c hj hc => (HS.out j hj).2 c hc⟩, fun _ => rfl⟩, below_drewN BW _⟩
  · have e1 : ((M.n : Int) == (N.n : Int)) = false := by simp; omega
    clear hV0 hU0 hV hU
    go_enter Try.func12, Try.ntmps12
    go_wp2_with fail
    rw [← hW]
    go_ret
    exact ⟨false, rfl, ⟨fun h => (by cases h), fun h => absurd h.n hn⟩, BW⟩
end Go.Proofs.Ytpngikmcjkjdaaa
