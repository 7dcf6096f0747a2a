import Derived.Test.YtpngikmcjkjdaaaGreatDoorStepB
namespace Go.Proofs.YtpngikmcjkjdaaaGreatDoor
open Go.RowKit
set_option linter.unusedVariables false
set_option linter.unusedSimpArgs false

theorem WbS.blw' {Wo w : World} {bw N : Nat} (h : WbS Wo w bw N) : Below bw Wo w := by
  obtain ⟨vts, vbs, vtx, hs, ps, xs, lab, hw, _⟩ := h
  exact hw.wd.blw
theorem WbS.below {Wo w w' : World} {bw N : Nat} (h : WbS Wo w bw N) (hb : Below w.heap.size w w') : WbS Wo w' bw N := by
  obtain ⟨vts, vbs, vtx, hs, ps, xs, lab, hw, l⟩ := h
  exact ⟨vts, vbs, vtx, hs, ps, xs, lab, hw.below hb, l⟩
theorem WbS.more {Wo w : World} {bw N : Nat} (h : WbS Wo w bw N) : WbS Wo w bw (N + 1) := by
  obtain ⟨vts, vbs, vtx, hs, ps, xs, lab, hw, l1, l2, l3⟩ := h
  exact ⟨vts, vbs, vtx, hs, ps, xs, lab, hw, by omega, by omega, by omega⟩
theorem WbS.looks {Wo w : World} {N : Nat} (h : WbS Wo w Wo.heap.size N) (hN : N ≤ 4398046511104) (h3 : 3 ≤ Wo.heap.size) (ht : PowTab Wo) :
    Calls Tryz.prog 13 #[.pointer (some ⟨Wo.heap.size, 0, none⟩)] w fun e w' => e = .returned (.bool true) ∧ Below w.heap.size w w' := by
  obtain ⟨vts, vbs, vtx, hs, ps, xs, lab, hw, l1, l2, l3⟩ := h
  exact looksB_ok Wo w _ vts vbs vtx hs ps xs lab hw (by omega) (by omega) h3 (ht.below h3 hw.wd.blw)

set_option maxRecDepth 20000 in
set_option maxHeartbeats 4000000 in
theorem playsB_ok (ao : Option Addr) (len cap : Nat) (kd fa fb fc fd : Nat → Int) (st : Nat → ByteArray) (lo : Nat → Option Addr) (ll lc : Nat → Nat) (z : Nat → Nat → Int) (w : World) (h : OpsAt w ao len kd fa fb fc fd st lo ll lc z)
    (bk nk ck : Nat) (ks : Nat → Int) (hk : ∀ j, j < nk → w.cell? ⟨bk, j, none⟩ = some (.int .i64 (ks j))) (hnk : nk ≤ 100) (h3 : 3 ≤ w.heap.size) (hpt : PowTab w)
    (HS : ∀ i, i < len → inB (kd i) ks nk = true → ∀ w' : World, Below w.heap.size w w' → WbS w w' w.heap.size i →
      Calls Tryz.prog 12 #[.pointer (some ⟨w.heap.size, 0, none⟩), .agg #[.int .i64 (kd i), .int .i64 (fa i), .int .i64 (fb i), .int .i64 (fc i), .int .i64 (fd i), .string (st i), .slice (lo i) (ll i) (lc i)]] w' (StepPostB w w.heap.size i)) :
    Calls Tryz.prog 11 #[.slice ao len cap, .slice (some ⟨bk, 0, none⟩) nk ck] w fun e w' => e = .returned (.bool true) ∧ Below w.heap.size w w' := by
  have hln := h.ln
  have P0 : WbS w (w.alloc (.cells #[.slice none 0 0, .slice none 0 0, .slice none 0 0] 31)) w.heap.size 0 :=
    ⟨.slice none 0 0, .slice none 0 0, .slice none 0 0, [], [], [], fun _ => 0, ⟨⟨(Below.refl _ _).alloc (Nat.le_refl _) _, heap_at_new rfl, World.ownsRow_nil _ _ _ _, fun d hd => by simp at hd, fun d hd => by simp at hd, List.Pairwise.nil, fun g e => by simp [Value.ownBlock] at e, fun k o e => by simp [frOf] at e⟩, World.ownsRow_nil _ _ _ _, World.ownsRow_nil _ _ _ _, fun i hi => by simp at hi, fun i hi => by simp at hi, fun g e => by simp [Value.ownBlock] at e, fun g e => by simp [Value.ownBlock] at e, fun k hl => absurd rfl hl⟩, by simp, by simp, by simp⟩
  go_enter Tryz.func11, Tryz.ntmps11
  go_wp2_with fail
  go_loopw [6, 7, 8, 9] (fun i' _ _ _ wr => ∃ i : Nat, i ≤ len ∧ i' = .int .i64 i ∧ WbS w wr w.heap.size i) (fun i' _ _ _ _ => len - (intOf i').toNat)
  case atStart => exact ⟨0, by omega, rfl, P0⟩
  case round =>
    obtain ⟨i, hi, rfl, hP⟩ := hrel
    clear P0
    by_cases hlt : i < len
    · obtain ⟨b, o, rfl, c0, c1, c2, c3, c4, c5, c6⟩ := (h.below hP.blw').cel i hlt
      have HK : Hid (∀ j, j < nk → wr.cell? ⟨bk, j, none⟩ = some (.int .i64 (ks j))) := fun j hj => by rw [(bcell hP.blw').1 _ _ (lt_of_cell (hk j hj))]; exact hk j hj
      have HP : Hid (WbS w wr w.heap.size i) := hP
      have HSS : Hid _ := HS i hlt
      have H0 : Hid _ := h
      clear hP h HS hk
      obtain ⟨k, HKD⟩ : ∃ x, Hid (kd i = x) := ⟨_, rfl⟩
      rw [HKD.out] at c0
      rename World => wo
      go_upto_region 5 with fail
      go_cut [7] (fun v wc => v = .bool (inB k ks 0) ∧ wc = wo)
      case first =>
        by_cases k1 : k = 1
        · subst k1
          go_wp2_with fail
          go_meet
          exact ⟨rfl, rfl⟩
        · have hb1 : (k == 1) = false := by simp [k1]
          go_wp2_with fail
          go_meet
          exact ⟨by simp [inB, hb1], rfl⟩
      case rest =>
        obtain ⟨rfl, hwc⟩ := hcut
        obtain rfl : wo = wc := hwc.symm
        go_wp2_with fail
        go_loopw [7, 8] (fun v j' wr => ∃ j q : Nat, j ≤ nk ∧ v = .bool (inB k ks j) ∧ j' = .int .i64 j ∧ wr = wo.drewN q) (fun _ j' _ => nk - (intOf j').toNat)
        case atStart => exact ⟨0, 0, by omega, rfl, rfl, rfl⟩
        case round =>
          obtain ⟨j, q, hj, rfl, rfl, rfl⟩ := hrel
          by_cases hltj : j < nk
          · have d0 := HK.out j hltj
            obtain ⟨kj, HKJ⟩ : ∃ x, Hid (ks j = x) := ⟨_, rfl⟩
            rw [HKJ.out] at d0
            obtain ⟨bb, HBB⟩ : ∃ x, Hid (inB k ks j = x) := ⟨_, rfl⟩
            rw [HBB.out]
            have HN : Hid (inB k ks (j + 1) = (bb || (k == kj))) := by unfold Hid; simp only [inB]; rw [HBB.out, HKJ.out]
            cases bb
            · go_wp2_with fail
              go_quiet (fail)
              go_wp2_with fail
              go_roundw
              case rel => exact ⟨j + 1, _, by omega, by rw [HN.out]; simp, by go_num, rfl⟩
              case measure => simp [intOf]; omega
            · go_wp2_with fail
              go_quiet (fail)
              go_wp2_with fail
              go_roundw
              case rel => exact ⟨j + 1, _, by omega, by rw [HN.out]; simp, by go_num, rfl⟩
              case measure => simp [intOf]; omega
          · have he : j = nk := by omega
            subst he
            obtain ⟨bb, HBB⟩ : ∃ x, Hid (inB k ks j = x) := ⟨_, rfl⟩
            rw [HBB.out]
            have hPq := HP.out.below (below_drewN (Below.refl _ _) q)
            have hBq : Below w.heap.size w (wo.drewN q) := hPq.blw'
            cases bb
            · have HPQ : Hid (WbS w (wo.drewN q) w.heap.size i) := hPq
              clear hPq hBq
              go_wp2_with fail
              go_roundw
              case rel => exact ⟨i + 1, by omega, by go_num, HPQ.out.more⟩
              case measure => simp [intOf]; omega
            · have HC := HSS.out (by rw [HKD.out]; exact HBB.out) (wo.drewN q) hBq hPq
              rw [HKD.out] at HC
              clear hPq hBq
              go_wp2_with fail
              refine Calls.mono HC ?_
              rintro e w1 ⟨rfl, hW1⟩
              have HC2 := hW1.looks (by omega) h3 hpt
              have HW1 : Hid (WbS w w1 w.heap.size (i + 1)) := hW1
              clear HC hW1
              go_wp2_with fail
              refine HC2.mono ?_
              rintro e w2 ⟨rfl, hB2⟩
              clear HC2
              go_wp2_with fail
              go_roundw
              case rel => exact ⟨i + 1, by omega, by go_num, HW1.out.below hB2⟩
              case measure => simp [intOf]; omega
    · have he : i = len := by omega
      subst he
      have HP : Hid (WbS w wr w.heap.size i) := hP
      clear hP h HS hk
      go_wp2_with fail
      go_ret
      exact ⟨rfl, HP.out.blw'⟩
end Go.Proofs.YtpngikmcjkjdaaaGreatDoor
