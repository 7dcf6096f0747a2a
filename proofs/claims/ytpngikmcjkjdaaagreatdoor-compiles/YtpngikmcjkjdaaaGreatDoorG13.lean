import Derived.Test.YtpngikmcjkjdaaaGreatDoorG12
import Derived.Test.YtpngikmcjkjdaaaGreatDoorG3
import Derived.Test.YtpngikmcjkjdaaaGreatDoorG8
set_option linter.unusedVariables false
set_option linter.unusedSimpArgs false
namespace Go.Proofs.YtpngikmcjkjdaaaGreatDoor
open Go.RowKit
set_option linter.unusedVariables false
set_option linter.unusedSimpArgs false
theorem itemA_le (q d c : Nat) (hd : d ≤ 6) : (itemA q d c).1 ≤ 12 ∧ (itemA q d c).2 ≤ 6 := by
  unfold itemA
  split
  · exact ⟨by simp, hd⟩
  · split
    · exact ⟨by simp, hd⟩
    · split
      · rename_i h; simp at h; exact ⟨by simp, by simp; omega⟩
      · split
        · exact ⟨by simp, by simp; omega⟩
        · split
          · exact ⟨by simp, hd⟩
          · split
            · exact ⟨by simp, hd⟩
            · split
              · exact ⟨by simp, hd⟩
              · exact ⟨by simp, hd⟩
theorem setA_le (q c : Nat) : setA q c ≤ 12 := by
  unfold setA
  split
  · omega
  · split
    · omega
    · split
      · omega
      · split
        · omega
        · split <;> omega
theorem markA_le (q c : Nat) : markA q c ≤ 12 := by
  unfold markA
  split
  · omega
  · split
    · omega
    · split
      · omega
      · split <;> omega
theorem At.bound {s : ByteArray} {a q d : Nat} (h : At s a q d) : q ≤ 11 ∧ d ≤ 6 := by
  induction h with
  | zero => omega
  | step h1 hlt ha hq ih =>
    rename_i a q d q' d'
    unfold aut at ha
    split at ha
    · have := itemA_le q d (byteAt s a) ih.2
      rw [ha] at this
      simp only at this
      omega
    · split at ha
      · simp only [Prod.mk.injEq] at ha
        have := setA_le q (byteAt s a)
        omega
      · simp only [Prod.mk.injEq] at ha
        have := markA_le q (byteAt s a)
        omega
theorem byte_lt (s : ByteArray) (a : Nat) : byteAt s a < 256 := by unfold byteAt; exact UInt8.toNat_lt _
def PlaceIs (s : ByteArray) (r : Int) : Prop := (∃ a : Nat, Stuck s a ∧ r = (a : Int)) ∨ (∃ q, At s s.size q 0 ∧ q ≤ 2 ∧ r = -1)
theorem aut_item {q d c : Nat} (h : q ≤ 2) : aut q d c = itemA q d c := by unfold aut; rw [if_pos h]
theorem aut_set {q d c : Nat} (h : ¬ q ≤ 2) (h' : q ≤ 7) : aut q d c = (setA q c, d) := by unfold aut; rw [if_neg h, if_pos h']
theorem aut_mark {q d c : Nat} (h : ¬ q ≤ 2) (h' : ¬ q ≤ 7) : aut q d c = (markA q c, d) := by unfold aut; rw [if_neg h, if_neg h']
set_option maxRecDepth 20000 in
set_option maxHeartbeats 2000000 in
theorem rplace_any (s : ByteArray) (w : World) (hs : s.size ≤ 40) : Calls Tryz.prog 69 #[.string s] w fun e w' => ∃ r : Int, e = .returned (.int .i64 r) ∧ PlaceIs s r ∧ w = w' := by
  go_enter Tryz.func69, Tryz.ntmps69
  go_wp2_with fail
  go_loop [3, 4, 5] (fun q' d' i' => ∃ i q d : Nat, i ≤ s.size ∧ i' = .int .i64 (i : Int) ∧ q' = .int .i64 (q : Int) ∧ d' = .int .i64 (d : Int) ∧ At s i q d) (fun _ _ i' => s.size - (intOf i').toNat)
  case atStart => exact ⟨0, 0, 0, by omega, rfl, rfl, rfl, .zero⟩
  case round =>
    obtain ⟨i, q, d, hi, rfl, rfl, rfl, hA⟩ := hrel
    obtain ⟨hqb, hdb⟩ := hA.bound
    by_cases hlt : i < s.size
    · have hc := byte_lt s i
      have hce := byteAt_eq hlt
      have HA : Hid (At s i q d) := hA
      clear hA
      by_cases h2 : q ≤ 2
      · have h2' : (q : Int) ≤ 2 := by omega
        have HC := ritem_ok q d (byteAt s i) w hc (by omega) (by omega)
        have HE : Hid (aut q d (byteAt s i) = itemA q d (byteAt s i)) := aut_item h2
        obtain ⟨q1, d1, HI⟩ : ∃ q1 d1, Hid (itemA q d (byteAt s i) = (q1, d1)) := ⟨_, _, rfl⟩
        rw [HI.out] at HC HE
        rw [hce] at HC
        simp only at HC
        clear hce hc
        by_cases h12 : q1 = 12
        · have HS : Hid (Stuck s i) := ⟨q, d, HA.out, .inl ⟨hlt, by rw [HE.out]; exact h12⟩⟩
          subst h12
          clear HI HE
          go_wp2_with (go_at_call 107; refine HC.mono ?_; rintro e w' ⟨rfl, rfl⟩)
          go_ret
          exact ⟨_, rfl, .inl ⟨i, HS.out, rfl⟩, rfl⟩
        · have h12' : ((q1 : Int) == 12) = false := by simp; omega
          have HN : Hid (At s (i + 1) q1 d1) := HA.out.step hlt HE.out h12
          clear HI HE h12
          go_wp2_with (go_at_call 107; refine HC.mono ?_; rintro e w' ⟨rfl, rfl⟩)
          go_round
          case rel => exact ⟨i + 1, q1, d1, by omega, by go_num, rfl, rfl, HN.out⟩
          case measure => simp [intOf]; omega
      · have h2' : ¬ (q : Int) ≤ 2 := by omega
        by_cases h7 : q ≤ 7
        · have h7' : (q : Int) ≤ 7 := by omega
          have HC := rset_ok q (byteAt s i) w hc (by omega)
          have HE : Hid (aut q d (byteAt s i) = (setA q (byteAt s i), d)) := aut_set h2 h7
          obtain ⟨q1, HI⟩ : ∃ q1, Hid (setA q (byteAt s i) = q1) := ⟨_, rfl⟩
          rw [HI.out] at HC HE
          rw [hce] at HC
          clear hce hc
          by_cases h12 : q1 = 12
          · have HS : Hid (Stuck s i) := ⟨q, d, HA.out, .inl ⟨hlt, by rw [HE.out]; exact h12⟩⟩
            subst h12
            clear HI HE
            go_wp2_with (go_at_call 108; refine HC.mono ?_; rintro e w' ⟨rfl, rfl⟩)
            go_ret
            exact ⟨_, rfl, .inl ⟨i, HS.out, rfl⟩, rfl⟩
          · have h12' : ((q1 : Int) == 12) = false := by simp; omega
            have HN : Hid (At s (i + 1) q1 d) := HA.out.step hlt HE.out h12
            clear HI HE h12
            go_wp2_with (go_at_call 108; refine HC.mono ?_; rintro e w' ⟨rfl, rfl⟩)
            go_round
            case rel => exact ⟨i + 1, q1, d, by omega, by go_num, rfl, rfl, HN.out⟩
            case measure => simp [intOf]; omega
        · have h7' : ¬ (q : Int) ≤ 7 := by omega
          have HC := rmark_ok q (byteAt s i) w hc (by omega)
          have HE : Hid (aut q d (byteAt s i) = (markA q (byteAt s i), d)) := aut_mark h2 h7
          obtain ⟨q1, HI⟩ : ∃ q1, Hid (markA q (byteAt s i) = q1) := ⟨_, rfl⟩
          rw [HI.out] at HC HE
          rw [hce] at HC
          clear hce hc
          by_cases h12 : q1 = 12
          · have HS : Hid (Stuck s i) := ⟨q, d, HA.out, .inl ⟨hlt, by rw [HE.out]; exact h12⟩⟩
            subst h12
            clear HI HE
            go_wp2_with (go_at_call 109; refine HC.mono ?_; rintro e w' ⟨rfl, rfl⟩)
            go_ret
            exact ⟨_, rfl, .inl ⟨i, HS.out, rfl⟩, rfl⟩
          · have h12' : ((q1 : Int) == 12) = false := by simp; omega
            have HN : Hid (At s (i + 1) q1 d) := HA.out.step hlt HE.out h12
            clear HI HE h12
            go_wp2_with (go_at_call 109; refine HC.mono ?_; rintro e w' ⟨rfl, rfl⟩)
            go_round
            case rel => exact ⟨i + 1, q1, d, by omega, by go_num, rfl, rfl, HN.out⟩
            case measure => simp [intOf]; omega
    · obtain rfl : i = s.size := by omega
      have HA : Hid (At s s.size q d) := hA
      clear hA
      by_cases h2 : q ≤ 2
      · have h2' : ¬ (2 : Int) < (q : Int) := by omega
        by_cases h0 : d = 0
        · subst h0
          go_wp2_with fail
          go_ret
          exact ⟨_, rfl, .inr ⟨q, HA.out, h2, rfl⟩, rfl⟩
        · have h0' : (0 : Int) < (d : Int) := by omega
          have HD : Hid (0 < d) := by unfold Hid; omega
          clear h0
          go_wp2_with fail
          go_ret
          exact ⟨_, rfl, .inl ⟨s.size, ⟨q, d, HA.out, .inr ⟨rfl, .inr HD.out⟩⟩, rfl⟩, rfl⟩
      · have h2' : (2 : Int) < (q : Int) := by omega
        go_wp2_with fail
        go_ret
        exact ⟨_, rfl, .inl ⟨s.size, ⟨q, d, HA.out, .inr ⟨rfl, .inl (by omega)⟩⟩, rfl⟩, rfl⟩
set_option maxRecDepth 20000 in
set_option maxHeartbeats 2000000 in
theorem rbackward_any (s : ByteArray) (w : World) (hs : s.size ≤ 40) : Calls Tryz.prog 70 #[.string s] w fun e w' => ∃ r : Int, e = .returned (.int .i64 r) ∧ ((∃ i : Nat, r = (i : Int) ∧ Bk s i = true ∧ ∀ j, j < i → Bk s j = false) ∨ (r = -1 ∧ ∀ j, Bk s j = false)) ∧ Below w.heap.size w w' := by
  go_enter Tryz.func70, Tryz.ntmps70
  go_wp2_with fail
  go_loopw [3, 4] (fun i' _ wr => ∃ i : Nat, i ≤ s.size ∧ i' = .int .i64 (i : Int) ∧ (∀ j, j < i → Bk s j = false) ∧ Below w.heap.size w wr) (fun i' _ _ => s.size - (intOf i').toNat)
  case atStart => exact ⟨0, by omega, rfl, fun j hj => by omega, Below.refl _ _⟩
  case round =>
    obtain ⟨i, hi, rfl, hJ, hB⟩ := hrel
    have HJ : Hid (∀ j, j < i → Bk s j = false) := hJ
    have HB : Hid (Below w.heap.size w wr) := hB
    clear hJ hB
    by_cases hlt : i < s.size
    · have hc := byte_lt s i
      have hce := byteAt_eq hlt
      have HC := fun w => risDigit_ok (byteAt s i) w hc
      have HDG : Hid (isDigitN (byteAt s i) = isDigitN s[i].toNat) := by unfold Hid; rw [hce]
      rw [hce] at HC
      clear hce hc
      obtain ⟨dg, HD⟩ : ∃ x, Hid (isDigitN s[i].toNat = x) := ⟨isDigitN s[i].toNat, rfl⟩
      rw [HD.out] at HC
      rw [HD.out] at HDG
      clear HD
      obtain ⟨j1, J1⟩ : ∃ x, Hid (i + 1 = x) := ⟨i + 1, rfl⟩
      obtain ⟨j2, J2⟩ : ∃ x, Hid (i + 2 = x) := ⟨i + 2, rfl⟩
      have hw1 : IntKind.i64.wrap ((i : Int) + 1) = (j1 : Int) := by rw [← J1.out, IntKind.wrap_i64]; omega
      have hw2 : IntKind.i64.wrap ((i : Int) + 2) = (j2 : Int) := by rw [← J2.out, IntKind.wrap_i64]; omega
      by_cases h2 : i + 2 < s.size
      · have h2' : (j2 : Int) < (s.size : Int) := by rw [← J2.out]; omega
        have hl1 : j1 < s.size := by rw [← J1.out]; omega
        have hl2 : j2 < s.size := by rw [← J2.out]; omega
        have e1 := byteAt_eq (s := s) (a := j1) hl1
        have e2 := byteAt_eq (s := s) (a := j2) hl2
        have e0 := byteAt_eq hlt
        obtain ⟨c0, C0⟩ : ∃ x, Hid (s[i].toNat = x) := ⟨s[i].toNat, rfl⟩
        obtain ⟨c1, C1⟩ : ∃ x, Hid (s[j1].toNat = x) := ⟨s[j1].toNat, rfl⟩
        obtain ⟨c2, C2⟩ : ∃ x, Hid (s[j2].toNat = x) := ⟨s[j2].toNat, rfl⟩
        have E0 : Hid (byteAt s i = c0) := e0.trans C0.out
        have E1 : Hid (byteAt s (i + 1) = c1) := by unfold Hid; rw [J1.out]; exact e1.trans C1.out
        have E2 : Hid (byteAt s (i + 2) = c2) := by unfold Hid; rw [J2.out]; exact e2.trans C2.out
        clear e0 e1 e2
        by_cases h45 : c1 = 45
        · have t45 : ((s[j1].toNat : Int) == 45) = true := by rw [C1.out, h45]; rfl
          have H45 : Hid (c1 = 45) := h45
          clear h45
          by_cases hl : c2 < c0
          · have hl' : (s[j2].toNat : Int) < (s[i].toNat : Int) := by rw [C2.out, C0.out]; omega
            have HL : Hid (c2 < c0) := hl
            clear hl
            have HBK : Hid (Bk s i = true) := by
              unfold Hid Bk
              rw [E0.out, E1.out, E2.out, H45.out]; simp [h2, HL.out]
            go_wp2_with fail
            go_quiet (fail)
            go_wp2_with fail
            go_ret
            exact ⟨_, rfl, .inl ⟨i, rfl, HBK.out, HJ.out⟩, below_drewN HB.out nq⟩
          · have hl' : ¬ (s[j2].toNat : Int) < (s[i].toNat : Int) := by rw [C2.out, C0.out]; omega
            have t44 : ((s[j1].toNat : Int) == 44) = false := by rw [C1.out, H45.out]; rfl
            have HL : Hid (¬ c2 < c0) := hl
            clear hl
            cases dg
            all_goals
              have HBK : Hid (Bk s i = false) := by
                unfold Hid Bk
                have hL := HL.out; rw [E0.out, E1.out, E2.out, H45.out]; simp; omega
              go_wp2_with fail
              go_quiet (fail)
              go_wp2_with fail
              have HB2 : Hid (Below w.heap.size w (wr.drewN nq)) := below_drewN HB.out nq
              generalize wr.drewN nq = w2 at *
              go_wp2_with (go_at_call 110; refine (HC _).mono ?_; rintro e w' ⟨rfl, rfl⟩)
              go_quiet (fail)
              go_wp2_with fail
              go_roundw
              case rel => exact ⟨i + 1, by omega, by rw [J1.out], fun j hj => by
                by_cases e : j = i
                · subst e; exact HBK.out
                · exact HJ.out j (by omega), below_drewN HB2.out nq⟩
              case measure =>
                have hj1 := J1.out
                simp [intOf]; omega
        · have t45 : ((s[j1].toNat : Int) == 45) = false := by rw [C1.out]; simp; omega
          have H45 : Hid (c1 ≠ 45) := h45
          clear h45
          by_cases h44 : c1 = 44
          · have t44 : ((s[j1].toNat : Int) == 44) = true := by rw [C1.out, h44]; rfl
            have H44 : Hid (c1 = 44) := h44
            clear h44
            by_cases h125 : c2 = 125
            · have t125 : ((s[j2].toNat : Int) != 125) = false := by rw [C2.out, h125]; rfl
              have H125 : Hid (c2 = 125) := h125
              clear h125
              cases dg
              all_goals
                have HBK : Hid (Bk s i = false) := by
                  unfold Hid Bk
                  rw [E0.out, E1.out, E2.out, H44.out, H125.out]; simp
                go_wp2_with fail
                go_quiet (fail)
                go_wp2_with fail
                have HB2 : Hid (Below w.heap.size w (wr.drewN nq)) := below_drewN HB.out nq
                generalize wr.drewN nq = w2 at *
                go_wp2_with (go_at_call 110; refine (HC _).mono ?_; rintro e w' ⟨rfl, rfl⟩)
                go_quiet (fail)
                go_wp2_with fail
                go_roundw
                case rel => exact ⟨i + 1, by omega, by rw [J1.out], fun j hj => by
                  by_cases e : j = i
                  · subst e; exact HBK.out
                  · exact HJ.out j (by omega), below_drewN HB2.out nq⟩
                case measure =>
                  have hj1 := J1.out
                  simp [intOf]; omega
            · have t125 : ((s[j2].toNat : Int) != 125) = true := by rw [C2.out]; simp; omega
              have H125 : Hid (c2 ≠ 125) := h125
              clear h125
              by_cases hl : c2 < c0
              · have hl' : (s[j2].toNat : Int) < (s[i].toNat : Int) := by rw [C2.out, C0.out]; omega
                have HL : Hid (c2 < c0) := hl
                clear hl
                cases dg
                · skip
                  have HBK : Hid (Bk s i = false) := by
                    unfold Hid Bk
                    rw [HDG.out, E1.out, H44.out]; simp
                  go_wp2_with fail
                  go_quiet (fail)
                  go_wp2_with fail
                  have HB2 : Hid (Below w.heap.size w (wr.drewN nq)) := below_drewN HB.out nq
                  generalize wr.drewN nq = w2 at *
                  go_wp2_with (go_at_call 110; refine (HC _).mono ?_; rintro e w' ⟨rfl, rfl⟩)
                  go_quiet (fail)
                  go_wp2_with fail
                  go_roundw
                  case rel => exact ⟨i + 1, by omega, by rw [J1.out], fun j hj => by
                    by_cases e : j = i
                    · subst e; exact HBK.out
                    · exact HJ.out j (by omega), below_drewN HB2.out nq⟩
                  case measure =>
                    have hj1 := J1.out
                    simp [intOf]; omega
                · skip
                  have HBK : Hid (Bk s i = true) := by
                    unfold Hid Bk
                    have hL := HL.out; have hX := H125.out; rw [HDG.out, E0.out, E1.out, E2.out, H44.out]; simp; omega
                  go_wp2_with fail
                  go_quiet (fail)
                  go_wp2_with fail
                  have HB2 : Hid (Below w.heap.size w (wr.drewN nq)) := below_drewN HB.out nq
                  generalize wr.drewN nq = w2 at *
                  go_wp2_with (go_at_call 110; refine (HC _).mono ?_; rintro e w' ⟨rfl, rfl⟩)
                  go_quiet (fail)
                  go_wp2_with fail
                  go_ret
                  exact ⟨_, rfl, .inl ⟨i, rfl, HBK.out, HJ.out⟩, below_drewN HB2.out nq⟩
              · have hl' : ¬ (s[j2].toNat : Int) < (s[i].toNat : Int) := by rw [C2.out, C0.out]; omega
                have HL : Hid (¬ c2 < c0) := hl
                clear hl
                cases dg
                all_goals
                  have HBK : Hid (Bk s i = false) := by
                    unfold Hid Bk
                    have hL := HL.out; rw [E0.out, E1.out, E2.out, H44.out]; simp; intros; omega
                  go_wp2_with fail
                  go_quiet (fail)
                  go_wp2_with fail
                  have HB2 : Hid (Below w.heap.size w (wr.drewN nq)) := below_drewN HB.out nq
                  generalize wr.drewN nq = w2 at *
                  go_wp2_with (go_at_call 110; refine (HC _).mono ?_; rintro e w' ⟨rfl, rfl⟩)
                  go_quiet (fail)
                  go_wp2_with fail
                  go_roundw
                  case rel => exact ⟨i + 1, by omega, by rw [J1.out], fun j hj => by
                    by_cases e : j = i
                    · subst e; exact HBK.out
                    · exact HJ.out j (by omega), below_drewN HB2.out nq⟩
                  case measure =>
                    have hj1 := J1.out
                    simp [intOf]; omega
          · have t44 : ((s[j1].toNat : Int) == 44) = false := by rw [C1.out]; simp; omega
            have H44 : Hid (c1 ≠ 44) := h44
            clear h44
            cases dg
            all_goals
              have HBK : Hid (Bk s i = false) := by
                unfold Hid Bk
                have hX := H44.out; have hY := H45.out; rw [E1.out, show (c1 == 45) = false by simpa using hY, show (c1 == 44) = false by simpa using hX]; simp
              go_wp2_with fail
              go_quiet (fail)
              go_wp2_with fail
              have HB2 : Hid (Below w.heap.size w (wr.drewN nq)) := below_drewN HB.out nq
              generalize wr.drewN nq = w2 at *
              go_wp2_with (go_at_call 110; refine (HC _).mono ?_; rintro e w' ⟨rfl, rfl⟩)
              go_quiet (fail)
              go_wp2_with fail
              go_roundw
              case rel => exact ⟨i + 1, by omega, by rw [J1.out], fun j hj => by
                by_cases e : j = i
                · subst e; exact HBK.out
                · exact HJ.out j (by omega), below_drewN HB2.out nq⟩
              case measure =>
                have hj1 := J1.out
                simp [intOf]; omega
      · have h2' : ¬ j2 < s.size := by rw [← J2.out]; omega
        cases dg
        all_goals
          have HBK : Hid (Bk s i = false) := by
            unfold Hid Bk
            simp [h2]
          go_wp2_with fail
          go_quiet (fail)
          go_wp2_with fail
          have HB2 : Hid (Below w.heap.size w (wr.drewN nq)) := below_drewN HB.out nq
          generalize wr.drewN nq = w2 at *
          go_wp2_with (go_at_call 110; refine (HC _).mono ?_; rintro e w' ⟨rfl, rfl⟩)
          go_quiet (fail)
          go_wp2_with fail
          go_roundw
          case rel => exact ⟨i + 1, by omega, by rw [J1.out], fun j hj => by
            by_cases e : j = i
            · subst e; exact HBK.out
            · exact HJ.out j (by omega), below_drewN HB2.out nq⟩
          case measure =>
            have hj1 := J1.out
            simp [intOf]; omega
    · obtain rfl : i = s.size := by omega
      have HALL : Hid (∀ j, Bk s j = false) := fun j => by
        by_cases h : j < s.size
        · exact HJ.out j h
        · unfold Bk
          have : ¬ j + 2 < s.size := by omega
          simp [this]
      clear HJ
      go_wp2_with fail
      go_ret
      exact ⟨_, rfl, .inr ⟨rfl, HALL.out⟩, HB.out⟩
end Go.Proofs.YtpngikmcjkjdaaaGreatDoor
namespace Go.Proofs.YtpngikmcjkjdaaaGreatDoor
set_option linter.unusedVariables false
def txt (s : ByteArray) : List Nat := s.data.toList.map UInt8.toNat
def sub (s : ByteArray) (a b : Nat) : List Nat := ((txt s).take b).drop a
theorem txt_len (s : ByteArray) : (txt s).length = s.size := by unfold txt; simp
theorem txt_get {s : ByteArray} {a : Nat} (h : a < s.size) : (txt s)[a]? = some (byteAt s a) := by
  have h' : a < s.data.toList.length := by rw [Array.length_toList]; exact h
  unfold txt byteAt
  rw [List.getElem?_map, List.getD_eq_getElem?_getD, List.getElem?_eq_getElem h']
  rfl
theorem sub_app {s : ByteArray} {a b c : Nat} (h1 : a ≤ b) (h2 : b ≤ c) : sub s a b ++ sub s b c = sub s a c := by
  unfold sub
  apply List.ext_getElem?
  intro i
  by_cases hb : b ≤ s.size
  · have hl : (((txt s).take b).drop a).length = b - a := by rw [List.length_drop, List.length_take, txt_len]; omega
    by_cases hi : i < b - a
    · rw [List.getElem?_append_left (by omega), List.getElem?_drop, List.getElem?_drop, List.getElem?_take_of_lt (by omega), List.getElem?_take_of_lt (by omega)]
    · rw [List.getElem?_append_right (by omega), hl, List.getElem?_drop, List.getElem?_drop, show b + (i - (b - a)) = a + i by omega]
  · have e : (txt s).take b = txt s := List.take_of_length_le (by rw [txt_len]; omega)
    have e' : (txt s).take c = txt s := List.take_of_length_le (by rw [txt_len]; omega)
    have e2 : (txt s).drop b = [] := List.drop_of_length_le (by rw [txt_len]; omega)
    rw [e, e', e2, List.append_nil]
theorem sub_nil (s : ByteArray) (a : Nat) : sub s a a = [] := by unfold sub; exact List.drop_of_length_le (by rw [List.length_take]; omega)
theorem sub_one {s : ByteArray} {a : Nat} (h : a < s.size) : sub s a (a + 1) = [byteAt s a] := by
  unfold sub
  rw [List.take_succ_eq_append_getElem (by rw [txt_len]; exact h), List.drop_append_of_le_length (by rw [List.length_take, txt_len]; omega), List.drop_of_length_le (by rw [List.length_take]; omega), List.nil_append]
  have := txt_get h
  rw [List.getElem?_eq_getElem (by rw [txt_len]; exact h)] at this
  simpa using this
theorem sub_cons {s : ByteArray} {a b : Nat} (h : a < b) (hb : b ≤ s.size) : sub s a b = byteAt s a :: sub s (a + 1) b := by
  rw [← sub_app (show a ≤ a + 1 by omega) (show a + 1 ≤ b by omega), sub_one (by omega)]; rfl
theorem sub_snoc {s : ByteArray} {a b : Nat} (h : a ≤ b) (hb : b < s.size) : sub s a (b + 1) = sub s a b ++ [byteAt s b] := by
  rw [← sub_app h (show b ≤ b + 1 by omega), sub_one hb]
theorem sub_all (s : ByteArray) : sub s 0 s.size = txt s := by unfold sub; rw [List.take_of_length_le (by rw [txt_len]; omega)]; rfl
inductive Mk where
  | none : Mk
  | star : Mk
  | plus : Mk
  | opt : Mk
  | just (n : Nat) : Mk
  | more (n : Nat) : Mk
  | span (n m : Nat) : Mk
def Mk.text : Mk → List Nat
  | .none => []
  | .star => [42]
  | .plus => [43]
  | .opt => [63]
  | .just n => [123, 48 + n, 125]
  | .more n => [123, 48 + n, 44, 125]
  | .span n m => [123, 48 + n, 44, 48 + m, 125]
def Mk.app : Mk → Pat → Pat
  | .none => fun p => p
  | .star => fun p => .rep p 0 1 true
  | .plus => fun p => .rep p 1 2 true
  | .opt => fun p => .rep p 0 1 false
  | .just n => fun p => .rep p n n false
  | .more n => fun p => .rep p n (n + 1) true
  | .span n m => fun p => .rep p n m false
def Mk.ok : Mk → Prop
  | .just n => n ≤ 9
  | .more n => n ≤ 9
  | .span n m => n ≤ m ∧ m ≤ 9
  | _ => True
structure Prt where
  f : Nat
  g : Nat
  dash : Bool
def Prt.ok (x : Prt) : Prop := x.f < 8 ∧ x.g < 8 ∧ (x.dash = false → x.g = x.f) ∧ x.f ≤ x.g
def Prt.text (x : Prt) : List Nat := if x.dash then [97 + x.f, 45, 97 + x.g] else [97 + x.f]
def setN (N : Nat → Bool) (l : List Prt) : Nat → Bool := l.foldl (fun N x => addSpan N x.f x.g) N
def Atom0T (l : List Nat) (p : Pat) : Prop :=
  (∃ c, c < 8 ∧ l = [97 + c] ∧ p = .one (fun x => decide (x = c))) ∨ (l = [46] ∧ p = .one (fun _ => true)) ∨
  (∃ ps : List Prt, ps ≠ [] ∧ (∀ x ∈ ps, x.ok) ∧ ((l = 91 :: ps.flatMap Prt.text ++ [93] ∧ p = .one (setN (fun _ => false) ps)) ∨ (l = 91 :: 94 :: ps.flatMap Prt.text ++ [93] ∧ p = .one (fun c => !setN (fun _ => false) ps c))))
structure Itm where
  la : List Nat
  q : Pat
  m : Mk
def Itm.text (i : Itm) : List Nat := i.la ++ i.m.text
def Itm.pat (i : Itm) : Pat := i.m.app i.q
def chainL (p : Pat) (l : List Itm) : Pat := l.foldl (fun p i => .chain p i.pat) p
def SeqT (A : List Nat → Pat → Prop) (l : List Nat) (p : Pat) : Prop := ∃ its : List Itm, (∀ i ∈ its, A i.la i.q ∧ i.m.ok) ∧ l = its.flatMap Itm.text ∧ p = chainL .none its
def altL (p : Pat) (l : List (List Nat × Pat)) : Pat := l.foldl (fun p y => .alt p y.2) p
def barsL (l : List (List Nat × Pat)) : List Nat := l.flatMap fun y => 124 :: y.1
def PatT (A : List Nat → Pat → Prop) (l : List Nat) (p : Pat) : Prop := ∃ (x : List Nat × Pat) (xs : List (List Nat × Pat)), SeqT A x.1 x.2 ∧ (∀ y ∈ xs, SeqT A y.1 y.2) ∧ l = x.1 ++ barsL xs ∧ p = altL x.2 xs
def AtomT : Nat → List Nat → Pat → Prop
  | 0 => Atom0T
  | k + 1 => fun l p => Atom0T l p ∨ ∃ l', l = 40 :: l' ++ [41] ∧ PatT (AtomT k) l' p
section
variable {s : ByteArray}
theorem spanF_bk {pl f g : Nat} {t : Sp} (h : (spanF pl f g t).bk = false) : t.bk = false ∧ f ≤ g := by
  unfold spanF at h
  by_cases hlt : g < f
  · rw [if_pos hlt] at h; simp [Sp.tell] at h
  · rw [if_neg hlt] at h; exact ⟨h, by omega⟩
theorem note_val {a : Nat} (h : noteHere s a = true) : byteAt s a = 97 + (byteAt s a - 97) := by have := noteN_iff.1 h; omega
theorem digit_val {a : Nat} (h : digitHere s a = true) : byteAt s a = 48 + (byteAt s a - 48) := by have := digitN_iff.1 h; omega
theorem part_text {t t' : Sp} {f g : Nat} (h : partF s t = .ok (f, g) t') (hfg : f ≤ g) : t'.bk = t.bk ∧ ∃ x : Prt, x.ok ∧ x.f = f ∧ x.g = g ∧ sub s t.a t'.a = x.text := by
  unfold partF at h
  split at h
  · rename_i h1
    have n1 := note_num h1
    have l1 := note_lt h1
    split at h
    · rename_i h2
      obtain ⟨b2, l2⟩ := hit_eq h2
      split at h
      · rename_i h3
        have n3 := note_num h3
        have l3 := note_lt h3
        simp only [Res.ok.injEq, Prod.mk.injEq] at h
        obtain ⟨⟨rfl, rfl⟩, rfl⟩ := h
        refine ⟨rfl, ⟨_, _, true⟩, ⟨n1.1, n3.1, fun h => by simp at h, hfg⟩, rfl, rfl, ?_⟩
        simp only [go_a, Prt.text, if_true]
        rw [sub_cons (by omega) (by omega), sub_cons (by omega) (by omega), sub_one l3, b2, ← note_val h1, ← note_val h3]
      · simp at h
    · simp only [Res.ok.injEq, Prod.mk.injEq] at h
      obtain ⟨⟨rfl, rfl⟩, rfl⟩ := h
      refine ⟨rfl, ⟨_, _, false⟩, ⟨n1.1, n1.1, fun _ => rfl, hfg⟩, rfl, rfl, ?_⟩
      simp only [go_a, Prt.text, Bool.false_eq_true, if_false]
      rw [sub_one l1, ← note_val h1]
  · simp at h
theorem setLoop_text {n : Nat} {N N' : Nat → Bool} {t t' : Sp} (h : setLoop s n N t = .ok N' t') (hb : t'.bk = false) : t.bk = false ∧ ∃ ps : List Prt, ps ≠ [] ∧ (∀ x ∈ ps, x.ok) ∧ sub s t.a t'.a = ps.flatMap Prt.text ++ [93] ∧ N' = setN N ps := by
  induction n generalizing N t with
  | zero => simp [setLoop] at h
  | succ n ih =>
    simp only [setLoop] at h
    cases hp : partF s t with
    | no t1 => rw [hp] at h; simp at h
    | ok x t1 =>
      obtain ⟨f, g⟩ := x
      rw [hp] at h
      have hok := partF_ok hp
      simp only at h
      split at h
      · rename_i h2
        have hfg : f ≤ g := by
          have h' := h
          simp only [Res.ok.injEq] at h'
          rw [← h'.2] at hb
          exact (spanF_bk (show (spanF t.a f g t1).bk = false from hb)).2
        obtain ⟨hbk, x, hx, rfl, rfl, ht⟩ := part_text hp hfg
        obtain ⟨b2, l2⟩ := hit_eq h2
        simp only [Res.ok.injEq] at h
        obtain ⟨rfl, rfl⟩ := h
        have hb' : (spanF t.a x.f x.g t1).bk = false := hb
        refine ⟨by rw [← hbk]; exact (spanF_bk hb').1, [x], by simp, by simpa using hx, ?_, rfl⟩
        simp only [go_a, spanF_a]
        rw [sub_snoc (by omega) l2, ht, b2]
        simp
      · obtain ⟨h3, ps, h4, h5, h6, h7⟩ := ih h
        obtain ⟨hbk, x, hx, rfl, rfl, ht⟩ := part_text hp (spanF_bk h3).2
        refine ⟨by rw [← hbk]; exact (spanF_bk h3).1, x :: ps, by simp, ?_, ?_, ?_⟩
        · intro y hy
          rcases List.mem_cons.1 hy with rfl | hy
          · exact hx
          · exact h5 y hy
        · simp only [spanF_a] at h6
          have hgo := setLoop_ok h
          simp only [spanF_a] at hgo
          rw [← sub_app (show t.a ≤ t1.a by omega) (show t1.a ≤ t'.a by omega), ht, h6]
          simp
        · rw [h7]; rfl
theorem set_text {N : Nat → Bool} {t t' : Sp} (h : setF s t = .ok N t') (hb : t'.bk = false) (hh : hit s (t.a - 1) 91 = true) (ha : 1 ≤ t.a) : t.bk = false ∧ Atom0T (sub s (t.a - 1) t'.a) (.one N) := by
  have hok := setF_ok h
  obtain ⟨b0, l0⟩ := hit_eq hh
  unfold setF at h
  have e0 : sub s (t.a - 1) t'.a = 91 :: sub s t.a t'.a := by
    rw [sub_cons (by omega) (by omega), b0, show t.a - 1 + 1 = t.a by omega]
  split at h
  · rename_i h1
    obtain ⟨b1, l1⟩ := hit_eq h1
    cases hp : setLoop s (s.size + 1) (fun _ => false) t.go with
    | no t1 => rw [hp] at h; simp at h
    | ok x t1 =>
      rw [hp] at h
      simp only [Res.ok.injEq] at h
      obtain ⟨rfl, rfl⟩ := h
      obtain ⟨h3, ps, h4, h5, h6, h7⟩ := setLoop_text hp hb
      refine ⟨h3, .inr (.inr ⟨ps, h4, h5, .inr ⟨?_, by rw [h7]⟩⟩)⟩
      rw [e0, sub_cons (by omega) (by omega), b1]
      simp only [go_a] at h6
      rw [h6]; rfl
  · obtain ⟨h3, ps, h4, h5, h6, h7⟩ := setLoop_text h hb
    refine ⟨h3, .inr (.inr ⟨ps, h4, h5, .inl ⟨?_, by rw [h7]⟩⟩)⟩
    rw [e0, h6]; rfl
def Reads (s : ByteArray) (A : List Nat → Pat → Prop) (atom : Sp → Res Pat) : Prop := ∀ t p t', atom t = .ok p t' → t'.bk = false → t.bk = false ∧ A (sub s t.a t'.a) p
theorem atom0_reads : Reads s Atom0T (atom0 s) := by
  intro t p t' h hb
  unfold atom0 at h
  split at h
  · rename_i h1
    cases hp : setF s t.go with
    | no t1 => rw [hp] at h; simp at h
    | ok x t1 =>
      rw [hp] at h
      simp only [Res.ok.injEq] at h
      obtain ⟨rfl, rfl⟩ := h
      exact set_text hp hb (by simpa using h1) (by simp)
  · split at h
    · rename_i h2
      obtain ⟨b2, l2⟩ := hit_eq h2
      simp only [Res.ok.injEq] at h
      obtain ⟨rfl, rfl⟩ := h
      exact ⟨hb, .inr (.inl ⟨by rw [go_a, sub_one l2, b2], rfl⟩)⟩
    · split at h
      · rename_i h2
        have l2 := note_lt h2
        simp only [Res.ok.injEq] at h
        obtain ⟨rfl, rfl⟩ := h
        exact ⟨hb, .inl ⟨byteAt s t.a - 97, (note_num h2).1, by rw [go_a, sub_one l2, ← note_val h2], rfl⟩⟩
      · simp at h
theorem count_text {lo co : Nat} {en : Bool} {t t' : Sp} (h : countF s t = .ok (lo, co, en) t') (hb : t'.bk = false) : t.bk = false ∧ ∃ m : Mk, m.ok ∧ (∀ p, m.app p = .rep p lo co en) ∧ 123 :: sub s t.a t'.a = m.text := by
  unfold countF at h
  split at h
  · rename_i h1
    have n1 := digit_num h1
    have l1 := digit_lt h1
    split at h
    · rename_i h2
      obtain ⟨b2, l2⟩ := hit_eq h2
      simp only [Res.ok.injEq, Prod.mk.injEq] at h
      obtain ⟨⟨rfl, rfl, rfl⟩, rfl⟩ := h
      refine ⟨hb, .just (byteAt s t.a - 48), by show byteAt s t.a - 48 ≤ 9; omega, fun _ => rfl, ?_⟩
      simp only [go_a, Mk.text]
      rw [sub_cons (by omega) (by omega), sub_one l2, b2, ← digit_val h1]
    · split at h
      · rename_i h3
        obtain ⟨b3, l3⟩ := hit_eq h3
        split at h
        · rename_i h2
          obtain ⟨b2, l2⟩ := hit_eq h2
          simp only [Res.ok.injEq, Prod.mk.injEq] at h
          obtain ⟨⟨rfl, rfl, rfl⟩, rfl⟩ := h
          refine ⟨hb, .more (byteAt s t.a - 48), by show byteAt s t.a - 48 ≤ 9; omega, fun _ => rfl, ?_⟩
          simp only [go_a, Mk.text]
          rw [sub_cons (by omega) (by omega), sub_cons (by omega) (by omega), sub_one l2, b2, b3, ← digit_val h1]
        · split at h
          · rename_i h4
            have n4 := digit_num h4
            have l4 := digit_lt h4
            split at h
            · rename_i h5
              obtain ⟨b5, l5⟩ := hit_eq h5
              simp only [Res.ok.injEq, Prod.mk.injEq] at h
              obtain ⟨⟨rfl, rfl, rfl⟩, rfl⟩ := h
              have hb' : (spanF t.a (byteAt s t.a - 48) (byteAt s (t.a + 1 + 1) - 48) t.go.go.go).bk = false := hb
              obtain ⟨hb1, hle⟩ := spanF_bk hb'
              refine ⟨hb1, .span (byteAt s t.a - 48) (byteAt s (t.a + 1 + 1) - 48), ⟨hle, by omega⟩, fun _ => rfl, ?_⟩
              simp only [go_a, spanF_a, Mk.text]
              rw [sub_cons (by omega) (by omega), sub_cons (by omega) (by omega), sub_cons (by omega) (by omega), sub_one l5, b5, b3, ← digit_val h1, ← digit_val h4]
            · simp at h
          · simp at h
      · simp at h
  · simp at h
theorem item_text {A : List Nat → Pat → Prop} {atom : Sp → Res Pat} {B : Nat} (ha : Reads s A atom) (hg : Goes s B atom) {t t' : Sp} {p : Pat} (h : itemF s atom t = .ok p t') (hb : t'.bk = false) : t.bk = false ∧ ∃ i : Itm, A i.la i.q ∧ i.m.ok ∧ i.pat = p ∧ sub s t.a t'.a = i.text := by
  unfold itemF at h
  cases hp : atom t with
  | no t1 => rw [hp] at h; simp at h
  | ok q t1 =>
    rw [hp] at h
    obtain ⟨g1, g2, _⟩ := hg _ _ _ hp
    simp only at h
    have one : ∀ (b : Nat) (m : Mk), hit s t1.a b = true → m.text = [b] → m.ok → t' = t1.go → p = m.app q → t.bk = false ∧ ∃ i : Itm, A i.la i.q ∧ i.m.ok ∧ i.pat = p ∧ sub s t.a t'.a = i.text := by
      intro b m hh ht hm e1 e2
      obtain ⟨b2, l2⟩ := hit_eq hh
      subst e1
      obtain ⟨h3, h4⟩ := ha _ _ _ hp hb
      refine ⟨h3, ⟨sub s t.a t1.a, q, m⟩, h4, hm, e2.symm, ?_⟩
      unfold Itm.text
      rw [go_a, sub_snoc (by omega) l2, b2, ht]
    split at h
    · rename_i h1
      simp only [Res.ok.injEq] at h
      exact one 42 .star h1 rfl trivial h.2.symm h.1.symm
    · split at h
      · rename_i h1
        simp only [Res.ok.injEq] at h
        exact one 43 .plus h1 rfl trivial h.2.symm h.1.symm
      · split at h
        · rename_i h1
          simp only [Res.ok.injEq] at h
          exact one 63 .opt h1 rfl trivial h.2.symm h.1.symm
        · split at h
          · rename_i h1
            obtain ⟨b1, l1⟩ := hit_eq h1
            cases hc : countF s t1.go with
            | no t2 => rw [hc] at h; simp at h
            | ok x t2 =>
              obtain ⟨lo, co, en⟩ := x
              rw [hc] at h
              simp only [Res.ok.injEq] at h
              obtain ⟨rfl, rfl⟩ := h
              have hgo := countF_ok hc
              simp only [go_a] at hgo
              obtain ⟨h3, m, h4, h5, h6⟩ := count_text hc hb
              obtain ⟨h7, h8⟩ := ha _ _ _ hp h3
              refine ⟨h7, ⟨sub s t.a t1.a, q, m⟩, h8, h4, h5 q, ?_⟩
              unfold Itm.text
              simp only [go_a] at h6
              rw [← h6, ← sub_app (show t.a ≤ t1.a by omega) (show t1.a ≤ t2.a by omega), sub_cons (show t1.a < t2.a by omega) (by omega), b1]
          · simp only [Res.ok.injEq] at h
            obtain ⟨rfl, rfl⟩ := h
            obtain ⟨h7, h8⟩ := ha _ _ _ hp hb
            exact ⟨h7, ⟨sub s t.a t1.a, q, .none⟩, h8, trivial, rfl, by unfold Itm.text; simp [Mk.text]⟩
theorem seq_text {A : List Nat → Pat → Prop} {atom : Sp → Res Pat} {B : Nat} (ha : Reads s A atom) (hg : Goes s B atom) {n : Nat} {t t' : Sp} {p q : Pat} (hz : t.a ≤ s.size) (h : seqF s atom n p t = .ok q t') (hb : t'.bk = false) : t.bk = false ∧ ∃ its : List Itm, (∀ i ∈ its, A i.la i.q ∧ i.m.ok) ∧ sub s t.a t'.a = its.flatMap Itm.text ∧ q = chainL p its := by
  induction n generalizing p t with
  | zero => simp [seqF] at h
  | succ n ih =>
    simp only [seqF] at h
    split at h
    · simp only [Res.ok.injEq] at h
      obtain ⟨rfl, rfl⟩ := h
      exact ⟨hb, [], by simp, by rw [sub_nil]; rfl, rfl⟩
    · cases hp : itemF s atom t with
      | no t1 => rw [hp] at h; simp at h
      | ok q1 t1 =>
        rw [hp] at h
        obtain ⟨g1, g2, _⟩ := itemF_goes hg _ _ _ hp
        obtain ⟨h1, its, h2, h3, h4⟩ := ih (by omega) h
        have hgo := seqF_goes hg (by omega) h
        obtain ⟨h5, i, h6, h7, h8, h9⟩ := item_text ha hg hp h1
        refine ⟨h5, i :: its, ?_, ?_, ?_⟩
        · intro y hy
          rcases List.mem_cons.1 hy with rfl | hy
          · exact ⟨h6, h7⟩
          · exact h2 y hy
        · rw [← sub_app (show t.a ≤ t1.a by omega) (show t1.a ≤ t'.a by omega), h9, h3]; rfl
        · rw [h4, ← h8]; rfl
theorem patLoop_text {A : List Nat → Pat → Prop} {atom : Sp → Res Pat} {B : Nat} (ha : Reads s A atom) (hg : Goes s B atom) {n : Nat} {t t' : Sp} {p q : Pat} (hz : t.a ≤ s.size) (h : patLoop s atom n p t = .ok q t') (hb : t'.bk = false) : t.bk = false ∧ ∃ xs : List (List Nat × Pat), (∀ y ∈ xs, SeqT A y.1 y.2) ∧ sub s t.a t'.a = barsL xs ∧ q = altL p xs := by
  induction n generalizing p t with
  | zero => simp [patLoop] at h
  | succ n ih =>
    simp only [patLoop] at h
    split at h
    · rename_i hh
      obtain ⟨b1, l1⟩ := hit_eq hh
      cases hp : seqF s atom (s.size + 1) .none t.go with
      | no t1 => rw [hp] at h; simp at h
      | ok q1 t1 =>
        rw [hp] at h
        obtain ⟨g1, g2, _⟩ := seqF_goes hg (by simp only [go_a]; omega) hp
        simp only [go_a] at g1
        obtain ⟨h1, xs, h2, h3, h4⟩ := ih (by omega) h
        have hgo := patLoop_goes hg (by omega) h
        obtain ⟨h5, its, h6, h7, h8⟩ := seq_text ha hg (by simp only [go_a]; omega) hp h1
        refine ⟨h5, (sub s t.go.a t1.a, q1) :: xs, ?_, ?_, ?_⟩
        · intro y hy
          rcases List.mem_cons.1 hy with rfl | hy
          · exact ⟨its, h6, h7, h8⟩
          · exact h2 y hy
        · rw [← sub_app (show t.a ≤ t1.a by omega) (show t1.a ≤ t'.a by omega), sub_cons (show t.a < t1.a by omega) (by omega), b1, h3]; rfl
        · rw [h4]; rfl
    · simp only [Res.ok.injEq] at h
      obtain ⟨rfl, rfl⟩ := h
      exact ⟨hb, [], by simp, by rw [sub_nil]; rfl, rfl⟩
theorem pat_text {A : List Nat → Pat → Prop} {atom : Sp → Res Pat} {B : Nat} (ha : Reads s A atom) (hg : Goes s B atom) {t t' : Sp} {q : Pat} (hz : t.a ≤ s.size) (h : patF s atom t = .ok q t') (hb : t'.bk = false) : t.bk = false ∧ PatT A (sub s t.a t'.a) q := by
  unfold patF at h
  cases hp : seqF s atom (s.size + 1) .none t with
  | no t1 => rw [hp] at h; simp at h
  | ok q1 t1 =>
    rw [hp] at h
    obtain ⟨g1, g2, _⟩ := seqF_goes hg hz hp
    have hgo := patLoop_goes hg (by omega) h
    obtain ⟨h1, xs, h2, h3, h4⟩ := patLoop_text ha hg (by omega) h hb
    obtain ⟨h5, its, h6, h7, h8⟩ := seq_text ha hg hz hp h1
    exact ⟨h5, (sub s t.a t1.a, q1), xs, ⟨its, h6, h7, h8⟩, h2, by rw [← sub_app (show t.a ≤ t1.a by omega) (show t1.a ≤ t'.a by omega), h3], h4⟩
theorem atom_reads (s : ByteArray) (k : Nat) : Reads s (AtomT k) (atomF s k) := by
  induction k with
  | zero => exact atom0_reads
  | succ k ih =>
    intro t p t' h hb
    simp only [atomF] at h
    split at h
    · rename_i hh
      obtain ⟨b1, l1⟩ := hit_eq hh
      cases hp : patF s (atomF s k) t.go with
      | no t1 => rw [hp] at h; simp at h
      | ok q1 t1 =>
        rw [hp] at h
        obtain ⟨g1, g2, _⟩ := patF_goes (atomF_goes k) (by simp only [go_a]; omega) hp
        simp only [go_a] at g1
        simp only at h
        split at h
        · rename_i h2
          obtain ⟨b2, l2⟩ := hit_eq h2
          simp only [Res.ok.injEq] at h
          obtain ⟨rfl, rfl⟩ := h
          obtain ⟨h3, h4⟩ := pat_text ih (atomF_goes k) (by simp only [go_a]; omega) hp hb
          refine ⟨h3, .inr ⟨_, ?_, h4⟩⟩
          rw [go_a, sub_snoc (by omega) l2, sub_cons (by omega) (by omega), b1, b2]
          rfl
        · simp at h
    · obtain ⟨h1, h2⟩ := atom0_reads _ _ _ h hb
      exact ⟨h1, .inl h2⟩
theorem parse_text {p : Pat} {t : Sp} (h : parseF s = .ok p t) (he : t.a = s.size) (hb : t.bk = false) : PatT (AtomT 6) (txt s) p := by
  have := (pat_text (atom_reads s 6) (atomF_goes 6) (by simp) h hb).2
  rw [he, sub_all] at this
  exact this
end
end Go.Proofs.YtpngikmcjkjdaaaGreatDoor
namespace Go.Proofs.YtpngikmcjkjdaaaGreatDoor
set_option linter.unusedVariables false
inductive Ex where
  | nil : Ex
  | one (S : Nat → Bool) : Ex
  | thn (a b : Ex) : Ex
  | alt (a b : Ex) : Ex
  | star (a : Ex) : Ex
def Ex.isNil : Ex → Bool
  | .nil => true
  | _ => false
def Ex.lang : Ex → List Nat → Prop
  | .nil => fun x => x = []
  | .one S => fun x => ∃ c, x = [c] ∧ S c = true
  | .thn a b => Cat a.lang b.lang
  | .alt a b => fun x => a.lang x ∨ b.lang x
  | .star a => Star a.lang
def Ex.thn' (a b : Ex) : Ex := if a.isNil then b else if b.isNil then a else .thn a b
def Ex.alt' (a b : Ex) : Ex := if a.isNil && b.isNil then a else .alt a b
def Ex.star' (a : Ex) : Ex := if a.isNil then a else .star a
theorem Ex.isNil_eq {a : Ex} (h : a.isNil = true) : a = .nil := by cases a <;> simp [Ex.isNil] at h ⊢
theorem cat_nil_left {l : List Nat → Prop} (x : List Nat) : Cat (fun x => x = []) l x ↔ l x :=
  ⟨fun ⟨u, v, e, hu, hv⟩ => by subst hu; rw [e]; exact hv, fun h => ⟨[], x, rfl, rfl, h⟩⟩
theorem cat_nil_right {l : List Nat → Prop} (x : List Nat) : Cat l (fun x => x = []) x ↔ l x :=
  ⟨fun ⟨u, v, e, hu, hv⟩ => by subst hv; rw [e, List.append_nil]; exact hu, fun h => ⟨x, [], by simp, h, rfl⟩⟩
theorem thn'_lang (a b : Ex) (x : List Nat) : (a.thn' b).lang x ↔ Cat a.lang b.lang x := by
  unfold Ex.thn'
  by_cases h1 : a.isNil = true
  · rw [if_pos h1, Ex.isNil_eq h1]; exact (cat_nil_left x).symm
  · rw [if_neg h1]
    by_cases h2 : b.isNil = true
    · rw [if_pos h2, Ex.isNil_eq h2]; exact (cat_nil_right x).symm
    · rw [if_neg h2]; exact Iff.rfl
theorem alt'_lang (a b : Ex) (x : List Nat) : (a.alt' b).lang x ↔ a.lang x ∨ b.lang x := by
  unfold Ex.alt'
  by_cases h : (a.isNil && b.isNil) = true
  · rw [if_pos h]
    simp only [Bool.and_eq_true] at h
    rw [Ex.isNil_eq h.1, Ex.isNil_eq h.2]; simp
  · rw [if_neg h]; exact Iff.rfl
theorem star'_lang (a : Ex) (x : List Nat) : a.star'.lang x ↔ Star a.lang x := by
  unfold Ex.star'
  by_cases h : a.isNil = true
  · rw [if_pos h, Ex.isNil_eq h]; exact (star_nil (fun x => Iff.rfl) x).symm
  · rw [if_neg h]; exact Iff.rfl
def Ex.empty : Ex → Bool
  | .nil => true
  | .one _ => false
  | .thn a b => a.empty && b.empty
  | .alt a b => a.empty || b.empty
  | .star _ => true
theorem empty_lang (e : Ex) : e.empty = true ↔ e.lang [] := by
  induction e with
  | nil => simp [Ex.empty, Ex.lang]
  | one S => simp [Ex.empty, Ex.lang]
  | thn a b iha ihb =>
    simp only [Ex.empty, Bool.and_eq_true, iha, ihb]
    constructor
    · rintro ⟨h1, h2⟩; exact ⟨[], [], rfl, h1, h2⟩
    · rintro ⟨u, v, e, h1, h2⟩
      have := List.append_eq_nil_iff.1 e.symm
      rw [this.1] at h1; rw [this.2] at h2; exact ⟨h1, h2⟩
  | alt a b iha ihb => simp only [Ex.empty, Bool.or_eq_true, iha, ihb]; exact Iff.rfl
  | star a _ => exact ⟨fun _ => .nil, fun _ => rfl⟩
def Ex.behind : Ex → Nat → List Ex
  | .nil, _ => []
  | .one S, c => if S c then [.nil] else []
  | .alt a b, c => a.behind c ++ b.behind c
  | .star a, c => (a.behind c).map fun x => x.thn' (.star a)
  | .thn a b, c => ((a.behind c).map fun x => x.thn' b) ++ if a.empty then b.behind c else []
theorem star_cons {l : List Nat → Prop} (c : Nat) (x : List Nat) : Star l (c :: x) ↔ ∃ u v, x = u ++ v ∧ l (c :: u) ∧ Star l v := by
  constructor
  · intro h
    generalize hy : c :: x = y at h
    induction h with
    | nil => simp at hy
    | cons hu hv ih =>
      rename_i u v
      cases u with
      | nil => exact ih (by simpa using hy)
      | cons d u =>
        simp only [List.cons_append, List.cons.injEq] at hy
        obtain ⟨rfl, rfl⟩ := hy
        exact ⟨u, v, rfl, hu, hv⟩
  · rintro ⟨u, v, rfl, hu, hv⟩
    exact .cons (u := c :: u) hu hv
theorem behind_lang (e : Ex) (c : Nat) (x : List Nat) : e.lang (c :: x) ↔ ∃ d ∈ e.behind c, d.lang x := by
  induction e generalizing x with
  | nil => simp [Ex.lang, Ex.behind]
  | one S =>
    simp only [Ex.lang, Ex.behind]
    by_cases h : S c = true
    · rw [if_pos h]
      simp only [List.mem_singleton, exists_eq_left, Ex.lang, List.cons.injEq]
      constructor
      · rintro ⟨d, ⟨_, rfl⟩, _⟩; rfl
      · rintro rfl; exact ⟨c, ⟨rfl, rfl⟩, h⟩
    · rw [if_neg h]
      simp only [List.not_mem_nil, false_and, exists_false, iff_false, List.cons.injEq]
      rintro ⟨d, ⟨rfl, _⟩, hd⟩; exact h hd
  | alt a b iha ihb =>
    show a.lang (c :: x) ∨ b.lang (c :: x) ↔ _
    rw [iha x, ihb x]
    simp only [Ex.behind, List.mem_append]
    constructor
    · rintro (⟨d, h1, h2⟩ | ⟨d, h1, h2⟩)
      · exact ⟨d, .inl h1, h2⟩
      · exact ⟨d, .inr h1, h2⟩
    · rintro ⟨d, h1 | h1, h2⟩
      · exact .inl ⟨d, h1, h2⟩
      · exact .inr ⟨d, h1, h2⟩
  | star a iha =>
    show Star a.lang (c :: x) ↔ _
    rw [star_cons]
    simp only [Ex.behind, List.mem_map]
    constructor
    · rintro ⟨u, v, rfl, hu, hv⟩
      obtain ⟨d, h1, h2⟩ := (iha u).1 hu
      exact ⟨_, ⟨d, h1, rfl⟩, (thn'_lang d (.star a) _).2 ⟨u, v, rfl, h2, hv⟩⟩
    · rintro ⟨_, ⟨d, h1, rfl⟩, h2⟩
      obtain ⟨u, v, rfl, h3, h4⟩ := (thn'_lang d (.star a) _).1 h2
      exact ⟨u, v, rfl, (iha u).2 ⟨d, h1, h3⟩, h4⟩
  | thn a b iha ihb =>
    simp only [Ex.behind, List.mem_append, List.mem_map]
    constructor
    · rintro ⟨u, v, e, hu, hv⟩
      cases u with
      | nil =>
        simp only [List.nil_append] at e
        subst e
        obtain ⟨d, h1, h2⟩ := (ihb x).1 hv
        exact ⟨d, .inr (by rw [if_pos ((empty_lang a).2 hu)]; exact h1), h2⟩
      | cons d u =>
        simp only [List.cons_append, List.cons.injEq] at e
        obtain ⟨rfl, rfl⟩ := e
        obtain ⟨d, h1, h2⟩ := (iha u).1 hu
        exact ⟨_, .inl ⟨d, h1, rfl⟩, (thn'_lang d b _).2 ⟨u, v, rfl, h2, hv⟩⟩
    · rintro ⟨d, ⟨d', h1, rfl⟩ | h1, h2⟩
      · obtain ⟨u, v, rfl, h3, h4⟩ := (thn'_lang d' b _).1 h2
        exact ⟨c :: u, v, rfl, (iha u).2 ⟨d', h1, h3⟩, h4⟩
      · by_cases he : a.empty = true
        · rw [if_pos he] at h1
          exact ⟨[], c :: x, rfl, (empty_lang a).1 he, (ihb x).2 ⟨d, h1, h2⟩⟩
        · rw [if_neg he] at h1; simp at h1
def Ex.pds : Ex → List Ex
  | .nil => []
  | .one _ => [.nil]
  | .alt a b => a.pds ++ b.pds
  | .thn a b => (a.pds.map fun x => x.thn' b) ++ b.pds
  | .star a => a.pds.map fun x => x.thn' (.star a)
def Ex.letters : Ex → Nat
  | .nil => 0
  | .one _ => 1
  | .alt a b => a.letters + b.letters
  | .thn a b => a.letters + b.letters
  | .star a => a.letters
theorem pds_length (e : Ex) : e.pds.length = e.letters := by
  induction e with
  | nil => rfl
  | one S => rfl
  | alt a b iha ihb => simp [Ex.pds, Ex.letters, iha, ihb]
  | thn a b iha ihb => simp [Ex.pds, Ex.letters, iha, ihb]
  | star a iha => simp [Ex.pds, Ex.letters, iha]
theorem behind_thn' (x b d : Ex) (c : Nat) (h : d ∈ (x.thn' b).behind c) : (∃ y ∈ x.behind c, d = y.thn' b) ∨ d ∈ b.behind c := by
  unfold Ex.thn' at h
  by_cases h1 : x.isNil = true
  · rw [if_pos h1] at h; exact .inr h
  · rw [if_neg h1] at h
    by_cases h2 : b.isNil = true
    · rw [if_pos h2] at h
      rw [Ex.isNil_eq h2]
      refine .inl ⟨d, h, ?_⟩
      unfold Ex.thn'
      by_cases h3 : d.isNil = true
      · rw [if_pos h3]; exact Ex.isNil_eq h3
      · rw [if_neg h3, if_pos (show Ex.nil.isNil = true from rfl)]
    · rw [if_neg h2] at h
      simp only [Ex.behind, List.mem_append, List.mem_map] at h
      rcases h with ⟨y, h3, rfl⟩ | h3
      · exact .inl ⟨y, h3, rfl⟩
      · by_cases h4 : x.empty = true
        · rw [if_pos h4] at h3; exact .inr h3
        · rw [if_neg h4] at h3; simp at h3
theorem behind_pds (e : Ex) (c : Nat) : ∀ d ∈ e.behind c, d ∈ e.pds := by
  induction e with
  | nil => intro d h; simp [Ex.behind] at h
  | one S =>
    intro d h
    simp only [Ex.behind] at h
    by_cases hs : S c = true
    · rw [if_pos hs] at h; exact h
    · rw [if_neg hs] at h; simp at h
  | alt a b iha ihb =>
    intro d h
    simp only [Ex.behind, Ex.pds, List.mem_append] at h ⊢
    exact h.imp (iha d) (ihb d)
  | star a iha =>
    intro d h
    simp only [Ex.behind, Ex.pds, List.mem_map] at h ⊢
    obtain ⟨y, h1, rfl⟩ := h
    exact ⟨y, iha y h1, rfl⟩
  | thn a b iha ihb =>
    intro d h
    simp only [Ex.behind, Ex.pds, List.mem_append, List.mem_map] at h ⊢
    rcases h with ⟨y, h1, rfl⟩ | h1
    · exact .inl ⟨y, iha y h1, rfl⟩
    · by_cases h4 : a.empty = true
      · rw [if_pos h4] at h1; exact .inr (ihb d h1)
      · rw [if_neg h4] at h1; simp at h1
theorem pds_closed (e : Ex) (c : Nat) : ∀ d ∈ e.pds, ∀ d' ∈ d.behind c, d' ∈ e.pds := by
  induction e with
  | nil => intro d h; simp [Ex.pds] at h
  | one S =>
    intro d h d' h'
    simp only [Ex.pds, List.mem_singleton] at h
    subst h
    simp [Ex.behind] at h'
  | alt a b iha ihb =>
    intro d h d' h'
    simp only [Ex.pds, List.mem_append] at h ⊢
    exact h.imp (fun h => iha d h d' h') (fun h => ihb d h d' h')
  | star a iha =>
    intro d h d' h'
    simp only [Ex.pds, List.mem_map] at h ⊢
    obtain ⟨y, h1, rfl⟩ := h
    rcases behind_thn' y (.star a) d' c h' with ⟨z, h2, rfl⟩ | h2
    · exact ⟨z, iha y h1 z h2, rfl⟩
    · simp only [Ex.behind, List.mem_map] at h2
      obtain ⟨z, h3, rfl⟩ := h2
      exact ⟨z, behind_pds a c z h3, rfl⟩
  | thn a b iha ihb =>
    intro d h d' h'
    simp only [Ex.pds, List.mem_append, List.mem_map] at h ⊢
    rcases h with ⟨y, h1, rfl⟩ | h1
    · rcases behind_thn' y b d' c h' with ⟨z, h2, rfl⟩ | h2
      · exact .inl ⟨z, iha y h1 z h2, rfl⟩
      · exact .inr (behind_pds b c d' h2)
    · exact .inr (ihb d h1 d' h')
end Go.Proofs.YtpngikmcjkjdaaaGreatDoor
namespace Go.Proofs.YtpngikmcjkjdaaaGreatDoor
set_option linter.unusedVariables false
theorem cat_assoc {l m n : List Nat → Prop} (x : List Nat) : Cat (Cat l m) n x ↔ Cat l (Cat m n) x := by
  constructor
  · rintro ⟨_, w, rfl, ⟨u, v, rfl, hu, hv⟩, hw⟩
    exact ⟨u, v ++ w, by simp, hu, v, w, rfl, hv, hw⟩
  · rintro ⟨u, _, rfl, hu, v, w, rfl, hv, hw⟩
    exact ⟨u ++ v, w, by simp, ⟨u, v, rfl, hu, hv⟩, hw⟩
def Pow (l : List Nat → Prop) : Nat → List Nat → Prop
  | 0 => fun x => x = []
  | n + 1 => Cat l (Pow l n)
theorem pow_snoc {l : List Nat → Prop} (n : Nat) (x : List Nat) : Cat (Pow l n) l x ↔ Pow l (n + 1) x := by
  induction n generalizing x with
  | zero => exact (cat_nil_left x).trans (cat_nil_right x).symm
  | succ n ih =>
    show Cat (Cat l (Pow l n)) l x ↔ Cat l (Pow l (n + 1)) x
    rw [cat_assoc]
    exact Cat.congr (fun _ => Iff.rfl) ih x
theorem pow_add {l : List Nat → Prop} (m n : Nat) (x : List Nat) : Cat (Pow l m) (Pow l n) x ↔ Pow l (m + n) x := by
  induction m generalizing x with
  | zero => rw [Nat.zero_add]; exact cat_nil_left x
  | succ m ih =>
    rw [show m + 1 + n = (m + n) + 1 by omega]
    show Cat (Cat l (Pow l m)) (Pow l n) x ↔ Cat l (Pow l (m + n)) x
    rw [cat_assoc]
    exact Cat.congr (fun _ => Iff.rfl) ih x
theorem star_pow {l : List Nat → Prop} (x : List Nat) : Star l x ↔ ∃ n, Pow l n x := by
  constructor
  · intro h
    induction h with
    | nil => exact ⟨0, rfl⟩
    | cons hu _ ih => obtain ⟨n, hn⟩ := ih; exact ⟨n + 1, _, _, rfl, hu, hn⟩
  · rintro ⟨n, h⟩
    induction n generalizing x with
    | zero => rw [show x = [] from h]; exact .nil
    | succ n ih => obtain ⟨u, v, rfl, hu, hv⟩ := h; exact .cons hu (ih v hv)
theorem copies_must {l : List Nat → Prop} {least : Nat} {en : Bool} (k : Nat) (hk : k ≤ least) (x : List Nat) : Copies l least en k x ↔ Pow l k x := by
  induction k generalizing x with
  | zero => exact Iff.rfl
  | succ k ih =>
    rw [← pow_snoc]
    refine Cat.congr (ih (by omega)) (fun y => ?_) x
    unfold Copy; rw [if_pos (by omega)]
theorem copies_span {l : List Nat → Prop} {least : Nat} (n : Nat) (x : List Nat) : Copies l least false (least + n) x ↔ ∃ j, least ≤ j ∧ j ≤ least + n ∧ Pow l j x := by
  induction n generalizing x with
  | zero =>
    rw [Nat.add_zero, copies_must least (Nat.le_refl _)]
    constructor
    · intro h; exact ⟨least, Nat.le_refl _, Nat.le_refl _, h⟩
    · rintro ⟨j, h1, h2, h⟩; rw [show least = j by omega]; exact h
  | succ n ih =>
    show Cat (Copies l least false (least + n)) (Copy l least (least + n) false) x ↔ _
    have hc : ∀ y, Copy l least (least + n) false y ↔ y = [] ∨ l y := by
      intro y; unfold Copy; rw [if_neg (by omega), if_neg (by simp)]
    rw [Cat.congr ih hc x]
    constructor
    · rintro ⟨u, v, rfl, ⟨j, h1, h2, h3⟩, rfl | hv⟩
      · exact ⟨j, h1, by omega, by rw [List.append_nil]; exact h3⟩
      · exact ⟨j + 1, by omega, by omega, (pow_snoc j _).1 ⟨u, v, rfl, h3, hv⟩⟩
    · rintro ⟨j, h1, h2, h3⟩
      by_cases hj : j ≤ least + n
      · exact ⟨x, [], by simp, ⟨j, h1, hj, h3⟩, .inl rfl⟩
      · obtain ⟨i, rfl⟩ : ∃ i, j = i + 1 := ⟨j - 1, by omega⟩
        obtain ⟨u, v, rfl, hu, hv⟩ := (pow_snoc i x).2 h3
        exact ⟨u, v, rfl, ⟨i, by omega, by omega, hu⟩, .inr hv⟩
theorem copies_more {l : List Nat → Prop} {least : Nat} (x : List Nat) : Copies l least true (least + 1) x ↔ ∃ j, least ≤ j ∧ Pow l j x := by
  show Cat (Copies l least true least) (Copy l least least true) x ↔ _
  have hc : ∀ y, Copy l least least true y ↔ ∃ n, Pow l n y := by
    intro y; unfold Copy; rw [if_neg (by omega), if_pos rfl, star_pow]
  rw [Cat.congr (copies_must least (Nat.le_refl _)) hc x]
  constructor
  · rintro ⟨u, v, rfl, hu, n, hv⟩
    exact ⟨least + n, by omega, (pow_add least n _).1 ⟨u, v, rfl, hu, hv⟩⟩
  · rintro ⟨j, h1, h2⟩
    obtain ⟨n, rfl⟩ : ∃ n, j = least + n := ⟨j - least, by omega⟩
    obtain ⟨u, v, rfl, hu, hv⟩ := (pow_add least n x).2 h2
    exact ⟨u, v, rfl, hu, n, hv⟩
def Ex.opts (x : Ex) : Nat → Ex
  | 0 => .nil
  | n + 1 => Ex.alt' .nil (x.thn' (x.opts n))
def Ex.must (x e : Ex) : Nat → Ex
  | 0 => e
  | n + 1 => x.thn' (x.must e n)
theorem opts_lang (x : Ex) (n : Nat) (y : List Nat) : (x.opts n).lang y ↔ ∃ j, j ≤ n ∧ Pow x.lang j y := by
  induction n generalizing y with
  | zero =>
    constructor
    · intro h; exact ⟨0, Nat.le_refl _, h⟩
    · rintro ⟨j, hj, h⟩; rw [show j = 0 by omega] at h; exact h
  | succ n ih =>
    simp only [Ex.opts]
    rw [alt'_lang, thn'_lang, Cat.congr (fun _ => Iff.rfl) ih y]
    constructor
    · rintro (h | ⟨u, v, rfl, hu, j, hj, hv⟩)
      · exact ⟨0, by omega, h⟩
      · exact ⟨j + 1, by omega, u, v, rfl, hu, hv⟩
    · rintro ⟨j, hj, h⟩
      cases j with
      | zero => exact .inl h
      | succ j => obtain ⟨u, v, rfl, hu, hv⟩ := h; exact .inr ⟨u, v, rfl, hu, j, by omega, hv⟩
theorem must_lang (x e : Ex) (n : Nat) (y : List Nat) : (x.must e n).lang y ↔ Cat (Pow x.lang n) e.lang y := by
  induction n generalizing y with
  | zero => exact (cat_nil_left y).symm
  | succ n ih =>
    simp only [Ex.must]
    rw [thn'_lang, Cat.congr (fun _ => Iff.rfl) ih y]
    exact (cat_assoc y).symm
theorem rep_span (x : Ex) (l : List Nat → Prop) (h : ∀ y, x.lang y ↔ l y) (lo n : Nat) (y : List Nat) : (x.must (x.opts n) lo).lang y ↔ Copies l lo false (lo + n) y := by
  have hp : ∀ j y, Pow x.lang j y ↔ Pow l j y := by
    intro j
    induction j with
    | zero => intro y; exact Iff.rfl
    | succ j ih => intro y; exact Cat.congr h ih y
  rw [must_lang, copies_span, Cat.congr (hp lo) (opts_lang x n) y]
  constructor
  · rintro ⟨u, v, rfl, hu, j, hj, hv⟩
    exact ⟨lo + j, by omega, by omega, (pow_add lo j _).1 ⟨u, v, rfl, hu, (hp j v).1 hv⟩⟩
  · rintro ⟨j, h1, h2, h3⟩
    obtain ⟨i, rfl⟩ : ∃ i, j = lo + i := ⟨j - lo, by omega⟩
    obtain ⟨u, v, rfl, hu, hv⟩ := (pow_add lo i y).2 h3
    exact ⟨u, v, rfl, hu, i, by omega, (hp i v).2 hv⟩
theorem rep_more (x : Ex) (l : List Nat → Prop) (h : ∀ y, x.lang y ↔ l y) (lo : Nat) (y : List Nat) : (x.must x.star' lo).lang y ↔ Copies l lo true (lo + 1) y := by
  have hp : ∀ j y, Pow x.lang j y ↔ Pow l j y := by
    intro j
    induction j with
    | zero => intro y; exact Iff.rfl
    | succ j ih => intro y; exact Cat.congr h ih y
  rw [must_lang, copies_more]
  have hs : ∀ y, x.star'.lang y ↔ ∃ n, Pow l n y := by
    intro y; rw [star'_lang, star_pow]
    exact ⟨fun ⟨n, h⟩ => ⟨n, (hp n y).1 h⟩, fun ⟨n, h⟩ => ⟨n, (hp n y).2 h⟩⟩
  rw [Cat.congr (hp lo) hs y]
  constructor
  · rintro ⟨u, v, rfl, hu, n, hv⟩
    exact ⟨lo + n, by omega, (pow_add lo n _).1 ⟨u, v, rfl, hu, hv⟩⟩
  · rintro ⟨j, h1, h2⟩
    obtain ⟨n, rfl⟩ : ∃ n, j = lo + n := ⟨j - lo, by omega⟩
    obtain ⟨u, v, rfl, hu, hv⟩ := (pow_add lo n y).2 h2
    exact ⟨u, v, rfl, hu, n, hv⟩
end Go.Proofs.YtpngikmcjkjdaaaGreatDoor
