import Derived.Test.YtpngikmcjkjdaaaBuild
namespace Go.Proofs.Ytpngikmcjkjdaaa
open Go.RowKit
set_option linter.unusedVariables false

set_option maxRecDepth 20000 in
set_option maxHeartbeats 2000000 in
theorem numbered_ok (V : Lay) (M : Tab) (w : World) (hM : M.Ok) (hV : TabAt w V M) (hN : Numbered M) :
    Calls Try.prog 10 #[.agg #[.slice (some ⟨V.ba, V.oa, none⟩) M.n V.ca, .slice (some ⟨V.bn, V.on, none⟩) M.n V.cn]] w
      fun e w' => e = .returned (.bool true) ∧ Below w.heap.size w w' := by
  have l1 := hM.lo
  have l2 := hM.hi
  obtain ⟨W, hW⟩ : ∃ W, W = w.alloc (.cells #[.slice (some ⟨V.ba, V.oa, none⟩) M.n V.ca, .slice (some ⟨V.bn, V.on, none⟩) M.n V.cn] 26) := ⟨_, rfl⟩
  have BW : Below w.heap.size w W := by rw [hW]; exact (Below.refl _ _).alloc (Nat.le_refl _) _
  have b0 : W.heap[w.heap.size]? = some (.cells #[.slice (some ⟨V.ba, V.oa, none⟩) M.n V.ca, .slice (some ⟨V.bn, V.on, none⟩) M.n V.cn] 26 (0, 0)) := by rw [hW]; exact heap_at_new (by simp)
  obtain ⟨x0, x1, _, _⟩ := cell_two b0
  have hV0 := hV.below BW
  have e0 : ((M.n : Int) == 0) = false := by simp; omega
  have hcl := come_le hN
  go_enter Try.func10, Try.ntmps10
  go_wp2_with fail
  rw [← hW]
  clear hW hV
  go_loop [3, 4] (fun cm i' => ∃ i : Nat, i ≤ M.n ∧ i' = .int .i64 i ∧ cm = .int .i64 (come M.nxt (8 * i))) (fun _ i' => M.n - (intOf i').toNat)
  case atStart => exact ⟨0, by omega, rfl, rfl⟩
  case round =>
    obtain ⟨i, hi, rfl, rfl⟩ := hrel
    have hc1 := hcl (8 * i) (by omega)
    have hcp := come_pos M.nxt (8 * i)
    by_cases hlt : i < M.n
    · have hrow := hN.row i hlt
      have y1 := hV0.row i hlt
      obtain ⟨cm0, HC0⟩ : ∃ x, Hid (come M.nxt (8 * i) = x) := ⟨_, rfl⟩
      rw [HC0.out] at hc1 hcp hrow ⊢
      have hzc := fun c => hV0.cel i c hlt
      have HZ : Hid (∀ c, c < 8 → W.cell? ⟨V.rb i, V.ro i + c, none⟩ = some (.int .i64 (M.nxt i c))) := hzc
      have HCL : Hid (∀ p, p ≤ 8 * M.n → come M.nxt p ≤ M.n) := hcl
      clear hzc hcl hV0
      go_wp2_with fail
      go_loop [3, 5, 6] (fun cm c' _ => ∃ c : Nat, c ≤ 8 ∧ c' = .int .i64 c ∧ cm = .int .i64 (come M.nxt (8 * i + c))) (fun _ c' _ => 8 - (intOf c').toNat)
      case atStart => exact ⟨0, by omega, rfl, by simp only [Nat.add_zero]; rw [HC0.out]⟩
      case round =>
        obtain ⟨c, hc, rfl, rfl⟩ := hrel
        have hc2 := HCL.out (8 * i + c) (by omega)
        have hcp2 := come_pos M.nxt (8 * i + c)
        by_cases hl8 : c < 8
        · have z1 := HZ.out c hl8
          have hnx := hN.nx i c hlt hl8
          have hst := hN.step (8 * i + c) (by omega)
          have HCS : Hid (come M.nxt (8 * i + (c + 1)) = max (come M.nxt (8 * i + c)) (M.nxt i c + 1)) := by
            unfold Hid; rw [← Nat.add_assoc]; simp only [come]
            rw [show (8 * i + c) / 8 = i by omega, show (8 * i + c) % 8 = c by omega]
          rw [show (8 * i + c) / 8 = i by omega, show (8 * i + c) % 8 = c by omega] at hst
          obtain ⟨cm, HC⟩ : ∃ x, Hid (come M.nxt (8 * i + c) = x) := ⟨_, rfl⟩
          obtain ⟨nv, HNV⟩ : ∃ x, Hid (M.nxt i c = x) := ⟨_, rfl⟩
          have HCS2 : Hid (come M.nxt (8 * i + (c + 1)) = max cm (nv + 1)) := by unfold Hid; rw [← HC.out, ← HNV.out]; exact HCS.out
          rw [HC.out] at hc2 hcp2 hst ⊢
          rw [HNV.out] at z1 hnx hst
          by_cases hq : nv = cm
          · have hb : ((nv : Int) == (cm : Int)) = true := by simp; omega
            have HQ : Hid (nv = cm) := hq
            clear hq
            go_wp2_with fail
            go_round
            case rel =>
              refine ⟨c + 1, by omega, by go_num, ?_⟩
              have := HQ.out
              rw [HCS2.out, show max cm (nv + 1) = cm + 1 by omega]; go_num
            case measure => simp [intOf]; omega
          · have hb : ((nv : Int) == (cm : Int)) = false := by simp; omega
            have HQ : Hid (nv < cm) := by unfold Hid; omega
            clear hq
            go_wp2_with fail
            go_round
            case rel =>
              refine ⟨c + 1, by omega, by go_num, ?_⟩
              have := HQ.out
              rw [HCS2.out, show max cm (nv + 1) = cm by omega]
            case measure => simp [intOf]; omega
        · have he : c = 8 := by omega
          subst he
          clear HZ y1
          rw [show 8 * i + 8 = 8 * (i + 1) by omega] at hc2 hcp2 ⊢
          obtain ⟨cm, HC⟩ : ∃ x, Hid (come M.nxt (8 * (i + 1)) = x) := ⟨_, rfl⟩
          rw [HC.out] at hc2 hcp2 ⊢
          go_wp2_with fail
          go_round
          case rel => exact ⟨i + 1, by omega, by go_num, by rw [HC.out]⟩
          case measure => simp [intOf]; omega
    · have he : i = M.n := by omega
      subst he
      rw [hN.all]
      have hb : ((M.n : Int) == (M.n : Int)) = true := by simp
      clear hcl hV0 hc1 hcp
      go_wp2_with fail
      go_ret
      exact ⟨rfl, BW⟩

/-- A text that raw numbers make. -/
def textOf (len : Nat) (z : Nat → Int) (k : Nat) : List UInt8 := (List.range k).map fun t => UInt8.ofNat (97 + pickN (z t) 8)
end Go.Proofs.Ytpngikmcjkjdaaa
