import Derived.Test.YtpngikmcjkjdaaaGreatDoorScript
import Derived.Test.YtpngikmcjkjdaaaGreatDoorStepAsk
namespace Go.Proofs.YtpngikmcjkjdaaaGreatDoor
open Go.RowKit
set_option linter.unusedVariables false

set_option maxRecDepth 20000 in
set_option maxHeartbeats 2000000 in
theorem runs_walk (ao : Option Addr) (len cap : Nat) (r : Nat → OpRec) (w : World) (hlen : len ≤ 4398046511104) (h : ∀ i, i < len → ∃ b o, ao = some ⟨b, o, none⟩ ∧ (r i).At w b (o + i * 7)) :
    Calls Tryz.prog 3 #[.slice ao len cap] w fun e w' => e = .returned (.bool true) ∧ Below w.heap.size w w' := by
  have hO := ops_of hlen h
  obtain ⟨W, hW⟩ : ∃ W, W = w.alloc (.cells #[.int .i64 3, .int .i64 4] 3) := ⟨_, rfl⟩
  have BW : Below w.heap.size w W := by rw [hW]; exact (Below.refl _ _).alloc (Nat.le_refl _) _
  have hWs : w.heap.size < W.heap.size := by rw [hW]; simp
  have b0 : W.heap[w.heap.size]? = some (.cells #[.int .i64 3, .int .i64 4] 3 (0, 0)) := by rw [hW]; exact heap_at_new rfl
  obtain ⟨k0, k1, _, _⟩ := cell_two b0
  have hO1 := hO.below BW
  have HC := plays_ok ao len cap _ _ _ _ _ _ _ _ _ _ W hO1 w.heap.size 2 2 (fun j => if j = 0 then 3 else 4) (fun j hj => by
      rcases (show j = 0 ∨ j = 1 by omega) with rfl | rfl
      · exact k0
      · exact k1) (by omega) (fun i hi hin w' vts hs hB hP hl => by
      have hR := hO1.below hB
      rw [inB_iff] at hin
      have hk : (r i).kd = 1 ∨ (r i).kd = 2 ∨ (r i).kd = 3 ∨ (r i).kd = 4 := by
        rcases hin with h | h | ⟨j, hj, h⟩
        · exact .inl h
        · exact .inr (.inl h)
        · rcases (show j = 0 ∨ j = 1 by omega) with rfl | rfl
          · exact .inr (.inr (.inl h))
          · exact .inr (.inr (.inr h))
      rcases hk with hk | hk | hk | hk
      · rw [hk]; exact step_table W w' W.heap.size vts hs hP _ _ _ _ _ _ _ _ _ (hR.lst i hi) (by omega)
      · rw [hk]; exact step_write W w' W.heap.size vts hs hP _ _ _ _ _ _ _ _ (by omega) (hR.ra i hi) (hR.rb i hi) (hR.rc i hi)
      · rw [hk]; exact step_ask3 W w' W.heap.size vts hs hP _ _ _ _ _ _ _ _ (by omega) (hR.ra i hi) (hR.str i hi)
      · rw [hk]; exact step_ask4 W w' W.heap.size vts hs hP _ _ _ _ _ _ _ _ (by omega) (hR.ra i hi) (hR.str i hi))
  clear hO hO1 h b0 k0 k1
  go_enter Tryz.func3, Tryz.ntmps3
  go_wp2_with fail
  rw [← hW]
  clear hW
  refine HC.mono ?_
  rintro e w1 ⟨rfl, hB1⟩
  clear HC
  go_wp2_with fail
  go_ret
  exact ⟨rfl, BW.trans (hB1.mono (by omega))⟩
end Go.Proofs.YtpngikmcjkjdaaaGreatDoor
