import Derived.Test.YtpngikmcjkjdaaaGreatDoorScript
import Derived.Test.YtpngikmcjkjdaaaGreatDoorPlaysB
namespace Go.Proofs.YtpngikmcjkjdaaaGreatDoor
open Go.RowKit
set_option linter.unusedVariables false
set_option linter.unusedSimpArgs false

set_option maxRecDepth 20000 in
set_option maxHeartbeats 2000000 in
theorem books_walk (ao : Option Addr) (len cap : Nat) (r : Nat → OpRec) (w : World) (hlen : len ≤ 4398046511104) (h : ∀ i, i < len → ∃ b o, ao = some ⟨b, o, none⟩ ∧ (r i).At w b (o + i * 7)) (h3 : 3 ≤ w.heap.size) (ht : PowTab w) :
    Calls Tryz.prog 8 #[.slice ao len cap] w fun e w' => e = .returned (.bool true) ∧ Below w.heap.size w w' := by
  have hO := ops_of hlen h
  obtain ⟨W, hW⟩ : ∃ W, W = w.alloc (.cells #[.int .i64 10, .int .i64 11, .int .i64 12, .int .i64 13, .int .i64 14, .int .i64 15] 3) := ⟨_, rfl⟩
  have BW : Below w.heap.size w W := by rw [hW]; exact (Below.refl _ _).alloc (Nat.le_refl _) _
  have hWs : w.heap.size < W.heap.size := by rw [hW]; simp
  have b0 : W.heap[w.heap.size]? = some (.cells #[.int .i64 10, .int .i64 11, .int .i64 12, .int .i64 13, .int .i64 14, .int .i64 15] 3 (0, 0)) := by rw [hW]; exact heap_at_new rfl
  have hO1 := hO.below BW
  have hc : ∀ j, j < 6 → W.cell? ⟨w.heap.size, j, none⟩ = some (.int .i64 ((10 + j : Nat) : Int)) := fun j hj => by
    rcases (show j = 0 ∨ j = 1 ∨ j = 2 ∨ j = 3 ∨ j = 4 ∨ j = 5 by omega) with rfl | rfl | rfl | rfl | rfl | rfl <;> simp [World.cell?, b0]
  have HC := playsB_ok ao len cap _ _ _ _ _ _ _ _ _ _ W hO1 w.heap.size 6 6 (fun j => ((10 + j : Nat) : Int)) hc (by omega) (by omega) (ht.below h3 BW) (fun i hi hin w' hB hS => by
      have hR := hO1.below hB
      rw [inB_iff] at hin
      have hk : (r i).kd = 1 ∨ (r i).kd = 2 ∨ (r i).kd = 10 ∨ (r i).kd = 11 ∨ (r i).kd = 12 ∨ (r i).kd = 13 ∨ (r i).kd = 14 ∨ (r i).kd = 15 := by
        rcases hin with h | h | ⟨j, hj, h⟩
        · exact .inl h
        · exact .inr (.inl h)
        · have h' : (r i).kd = ((10 + j : Nat) : Int) := h
          omega
      obtain ⟨vts, vbs, vtx, hs, ps, xs, lab, hw, l1, l2, l3⟩ := hS
      have hpt : PowTab w' := (ht.below h3 BW).below (by omega) hB
      rcases hk with hk | hk | hk | hk | hk | hk | hk | hk
      · rw [hk]; exact (step_table _ w' W.heap.size vts hs hw.wd _ _ _ _ _ _ _ _ _ (hR.lst i hi) (by omega)).mono (fun e w2 hp => stepB_of hw l1 l2 l3 hp)
      · rw [hk]; exact (step_write _ w' W.heap.size vts hs hw.wd _ _ _ _ _ _ _ _ (by omega) (hR.ra i hi) (hR.rb i hi) (hR.rc i hi)).mono (fun e w2 hp => stepB_of hw l1 l2 l3 hp)
      · rw [hk]; exact stepB_new W w' W.heap.size i vts vbs vtx hs ps xs lab hw l1 l2 l3 (by omega) _ _ _ _ _ _ _ _
      · rw [hk]; exact stepB_add W w' W.heap.size i vts vbs vtx hs ps xs lab hw l1 l2 l3 (by omega) _ _ _ _ _ _ _ _ (hR.ra i hi) (hR.str i hi)
      · rw [hk]; exact stepB_drop W w' W.heap.size i vts vbs vtx hs ps xs lab hw l1 l2 l3 (by omega) _ _ _ _ _ _ _ _ (hR.ra i hi) (hR.str i hi)
      · rw [hk]; exact stepB_has W w' W.heap.size i vts vbs vtx hs ps xs lab hw l1 l2 l3 (by omega) _ _ _ _ _ _ _ _ (hR.ra i hi) (hR.str i hi)
      · rw [hk]; exact stepB_count W w' W.heap.size i vts vbs vtx hs ps xs lab hw l1 l2 l3 (by omega) _ _ _ _ _ _ _ _ (hR.ra i hi) (hR.str i hi)
      · rw [hk]; exact stepB_knots W w' W.heap.size i vts vbs vtx hs ps xs lab hw l1 l2 l3 (by omega) _ _ _ _ _ _ _ _ (hR.ra i hi) (hR.str i hi) (by omega) hpt)
  clear hO hO1 h b0 hc ht
  go_enter Tryz.func8, Tryz.ntmps8
  go_wp2_with fail
  rw [← hW]
  clear hW
  refine HC.mono ?_
  rintro e w1 ⟨rfl, hB1⟩
  clear HC
  go_wp2_with fail
  go_ret
  exact ⟨rfl, BW.trans (hB1.mono (by omega))⟩
end Go.Proofs.YtpngikmcjkjdaaaGreatDoor
