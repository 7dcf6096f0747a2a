import Derived.Test.YtpngikmcjkjdaaaGreatDoorJoin
namespace Go.Proofs.YtpngikmcjkjdaaaGreatDoor
open Go.RowKit
set_option linter.unusedVariables false

set_option maxRecDepth 20000 in
set_option maxHeartbeats 1600000 in
theorem isTable_ok (V : Lay) (M : Tab) (w : World) (hM : M.Ok) (h : TabAt w V M) :
    Calls Tryz.prog 75 #[.agg #[.slice (some ⟨V.ba, V.oa, none⟩) M.n V.ca, .slice (some ⟨V.bn, V.on, none⟩) M.n V.cn]] w
      fun e w' => e = .returned (.bool true) ∧ Below w.heap.size w w' := by
  have l1 := hM.lo
  have l2 := hM.hi
  obtain ⟨W, hW⟩ : ∃ W, W = w.alloc (.cells #[.slice (some ⟨V.ba, V.oa, none⟩) M.n V.ca, .slice (some ⟨V.bn, V.on, none⟩) M.n V.cn] 41) := ⟨_, rfl⟩
  have BW : Below w.heap.size w W := by rw [hW]; exact (Below.refl _ _).alloc (Nat.le_refl _) _
  have b0 : W.heap[w.heap.size]? = some (.cells #[.slice (some ⟨V.ba, V.oa, none⟩) M.n V.ca, .slice (some ⟨V.bn, V.on, none⟩) M.n V.cn] 41 (0, 0)) := by rw [hW]; exact heap_at_new (by simp)
  obtain ⟨x0, x1, _, _⟩ := cell_two b0
  have h1 := h.below BW
  have hbm : ((M.n : Int) != (M.n : Int)) = false := by simp
  go_enter Tryz.func75, Tryz.ntmps75
  go_wp2_with fail
  rw [← hW]
  clear hW h b0
  go_loop [4] (fun i' => ∃ i : Nat, i ≤ M.n ∧ i' = .int .i64 i) (fun i' => M.n - (intOf i').toNat)
  case atStart => exact ⟨0, by omega, rfl⟩
  case round =>
    obtain ⟨i, hi, rfl⟩ := hrel
    by_cases hlt : i < M.n
    · have y0 := h1.row i hlt
      have HZ : Hid (∀ c, c < 8 → W.cell? ⟨V.rb i, V.ro i + c, none⟩ = some (.int .i64 (M.nxt i c))) := fun c => h1.cel i c hlt
      have HX : Hid (∀ c, c < 8 → M.nxt i c < M.n) := fun c => hM.nx i c hlt
      clear h1
      go_wp2_with fail
      go_loop [5] (fun c' => ∃ c : Nat, c ≤ 8 ∧ c' = .int .i64 c) (fun c' => 8 - (intOf c').toNat)
      case atStart => exact ⟨0, by omega, rfl⟩
      case round =>
        obtain ⟨c, hc, rfl⟩ := hrel
        by_cases hl8 : c < 8
        · have z1 := HZ.out c hl8
          have n1 := HX.out c hl8
          generalize M.nxt i c = nv at *
          go_wp2_with fail
          go_round
          case rel => exact ⟨c + 1, by omega, by go_num⟩
          case measure => simp [intOf]; omega
        · go_wp2_with fail
          go_round
          case rel => exact ⟨i + 1, by omega, by go_num⟩
          case measure => simp [intOf]; omega
    · clear h1
      go_wp2_with fail
      go_ret
      exact ⟨rfl, BW⟩

set_option maxRecDepth 20000 in
set_option maxHeartbeats 800000 in
theorem isText_ok (s : ByteArray) (most : Nat) (w : World) (hs : s.size ≤ maxLen) (hm : most ≤ 100000) :
    Calls Tryz.prog 61 #[.string s, .int .i64 most] w fun e w' => e = .returned (.bool (decide (s.size ≤ most) && textTo s s.size)) ∧ w' = w := by
  unfold maxLen at hs
  by_cases hl : s.size ≤ most
  · have e : (decide (s.size ≤ most) && textTo s s.size) = textTo s s.size := by simp [hl]
    rw [e]
    clear e
    go_enter Tryz.func61, Tryz.ntmps61
    go_wp2_with fail
    go_loop [5] (fun i' => ∃ i : Nat, i ≤ s.size ∧ i' = .int .i64 i ∧ textTo s i = true) (fun i' => s.size - (intOf i').toNat)
    case atStart => exact ⟨0, by omega, rfl, rfl⟩
    case round =>
      obtain ⟨i, hi, rfl, ht⟩ := hrel
      by_cases hlt : i < s.size
      · have hg := getD_byte s i hlt
        have hts : textTo s (i + 1) = (decide (97 ≤ s[i].toNat) && decide (s[i].toNat ≤ 104)) := by simp only [textTo, ht, Bool.true_and, hg]
        by_cases h97 : 97 ≤ s[i].toNat
        · by_cases h104 : s[i].toNat ≤ 104
          · have HT : Hid (textTo s (i + 1) = true) := by unfold Hid; rw [hts]; simp [h97, h104]
            have q1 : ¬ ((s[i].toNat : Int) < 97) := by omega
            have q2 : ¬ ((104 : Int) < (s[i].toNat : Int)) := by omega
            clear hts hg ht
            go_wp2_with fail
            go_round
            case rel => exact ⟨i + 1, by omega, by go_num, HT.out⟩
            case measure => simp [intOf]; omega
          · have HT : Hid (textTo s s.size = false) := textTo_mono s (i + 1) _ (by omega) (by rw [hts]; simp [h104])
            have q1 : ¬ ((s[i].toNat : Int) < 97) := by omega
            have q2 : (104 : Int) < (s[i].toNat : Int) := by omega
            clear hts hg ht
            go_wp2_with fail
            go_ret
            exact ⟨ret_bool HT.out.symm, rfl⟩
        · have HT : Hid (textTo s s.size = false) := textTo_mono s (i + 1) _ (by omega) (by rw [hts]; simp [h97])
          have q1 : (s[i].toNat : Int) < 97 := by omega
          clear hts hg ht
          go_wp2_with fail
          go_ret
          exact ⟨ret_bool HT.out.symm, rfl⟩
      · have e : i = s.size := by omega
        subst e
        have HT : Hid (textTo s s.size = true) := ht
        clear ht
        go_wp2_with fail
        go_ret
        exact ⟨ret_bool HT.out.symm, rfl⟩
  · have e : (decide (s.size ≤ most) && textTo s s.size) = false := by simp [hl]
    rw [e]
    clear e
    go_enter Tryz.func61, Tryz.ntmps61
    go_wp2_with fail
    go_ret
    exact ⟨rfl, rfl⟩

theorem wrap_small (c : Nat) (h : c < 8) : IntKind.i64.wrap (97 + (c : Int)) = 97 + (c : Int) := by rw [IntKind.wrap_i64]; omega
theorem wrap_small2 (c : Nat) (h : c < 8) : IntKind.i64.wrap (c : Int) = (c : Int) := by rw [IntKind.wrap_i64]; omega

set_option maxRecDepth 20000 in
set_option maxHeartbeats 1600000 in
theorem accepts_ok (V : Lay) (M : Tab) (s : ByteArray) (w : World) (hM : M.Ok) (h : TabAt w V M) (hs : IsText s) (hl : s.size ≤ 1000) :
    Calls Tryz.prog 76 #[.agg #[.slice (some ⟨V.ba, V.oa, none⟩) M.n V.ca, .slice (some ⟨V.bn, V.on, none⟩) M.n V.cn], .string s] w
      fun e w' => e = .returned (.bool (M.accepts (notesOf s))) ∧ Below w.heap.size w w' := by
  have hlo := hM.lo
  have hhi := hM.hi
  obtain ⟨W, hW⟩ : ∃ W, W = w.alloc (.cells #[.slice (some ⟨V.ba, V.oa, none⟩) M.n V.ca, .slice (some ⟨V.bn, V.on, none⟩) M.n V.cn] 41) := ⟨_, rfl⟩
  have BW : Below w.heap.size w W := by rw [hW]; exact (Below.refl _ _).alloc (Nat.le_refl _) _
  have b0 : W.heap[w.heap.size]? = some (.cells #[.slice (some ⟨V.ba, V.oa, none⟩) M.n V.ca, .slice (some ⟨V.bn, V.on, none⟩) M.n V.cn] 41 (0, 0)) := by rw [hW]; exact heap_at_new (by simp)
  obtain ⟨x0, x1, _, _⟩ := cell_two b0
  have h2 := h.below BW
  go_enter Tryz.func76, Tryz.ntmps76
  go_wp2_with fail
  rw [← hW]
  clear hW h b0
  go_loopw [5, 6] (fun st i' wr => ∃ k q : Nat, k ≤ s.size ∧ i' = .int .i64 k ∧ st = .int .i64 (M.read 0 ((notesOf s).take k)) ∧ wr = W.drewN q) (fun _ i' _ => s.size - (intOf i').toNat)
  case atStart => exact ⟨0, 0, Nat.zero_le _, rfl, rfl, rfl⟩
  case round =>
    obtain ⟨k, q, hk, rfl, rfl, rfl⟩ := hrel
    have hst := Tab.read_lt hM 0 (by omega) _ (notes_take (notes_of hs) k)
    by_cases hlt : k < s.size
    · have hch := isText_at hs k hlt
      have HT := notesOf_take s k hlt
      have hc8 : (s[k].toNat - 97 : Nat) < 8 := by omega
      have HS : Hid (((M.read 0 ((notesOf s).take (k + 1)) : Nat) : Int) = (M.nxt (M.read 0 ((notesOf s).take k)) (s[k].toNat - 97) : Nat)) := by
        unfold Hid; rw [HT, Tab.read_snoc]
      generalize M.read 0 ((notesOf s).take k) = st at *
      have hr := h2.row st hst
      have hcl := h2.cel st _ hst hc8
      obtain ⟨cc, HCC⟩ : ∃ c, Hid (s[k].toNat - 97 = c) := ⟨s[k].toNat - 97, Eq.refl _⟩
      have hcc : (s[k].toNat : Int) = 97 + (cc : Int) := by have := HCC.out; omega
      rw [HCC.out] at hcl hc8
      have HW1 : IntKind.i64.wrap (97 + (cc : Int)) = 97 + (cc : Int) := wrap_small cc hc8
      have HW2 : IntKind.i64.wrap (cc : Int) = (cc : Int) := wrap_small2 cc hc8
      have hcn : (cc : Int) < 8 := by omega
      have hcz : (0 : Int) ≤ (cc : Int) := by omega
      clear HT h2
      go_wp2_with fail
      go_quiet (fail)
      go_wp2_with fail
      go_roundw
      case rel => exact ⟨k + 1, _, by omega, by go_num, by rw [HS.out, HCC.out], rfl⟩
      case measure => simp [intOf]; omega
    · have e : k = s.size := by omega
      subst e
      rw [List.take_of_length_le (by rw [notesOf_length]; omega)] at hst ⊢
      have HS : Hid (M.accepts (notesOf s) = M.acc (M.read 0 (notesOf s))) := rfl
      generalize M.read 0 (notesOf s) = st at *
      have ha := h2.acc st hst
      clear h2
      go_wp2_with fail
      go_ret
      exact ⟨ret_bool HS.out.symm, below_drewN BW _⟩
end Go.Proofs.YtpngikmcjkjdaaaGreatDoor
