import Derived.Test.YtnpbkpfjgnffkaaGreatDoorStep
namespace Go.Proofs.YtnpbkpfjgnffkaaGreatDoor
open Go.RowKit
set_option linter.unusedVariables false

set_option maxRecDepth 20000 in
set_option maxHeartbeats 4000000 in
theorem looks_ok (W0 w : World) (bw : Nat) (vts : Value) (hs : List Hd) (h : WdAt W0 w bw vts hs) (hn : hs.length ≤ 4398046511104) :
    Calls Tryz.prog 9 #[.pointer (some ⟨bw, 0, none⟩)] w fun e w' => e = .returned (.bool true) ∧ Below w.heap.size w w' := by
  obtain ⟨al, cl, rfl, hal⟩ := ownsRow_shape h.own
  go_enter Tryz.func9, Tryz.ntmps9
  go_wp2_with fail
  go_loopw [3, 4] (fun i' _ wr => ∃ i : Nat, i ≤ hs.length ∧ i' = .int .i64 i ∧ Below w.heap.size w wr) (fun i' _ _ => hs.length - (intOf i').toNat)
  case atStart => exact ⟨0, by omega, rfl, Below.refl _ _⟩
  case round =>
    obtain ⟨i, hi, rfl, hb⟩ := hrel
    have hr := h.below hb
    obtain ⟨y0, y1, y2, y3⟩ := cell_three hr.blk
    by_cases hlt : i < hs.length
    · obtain ⟨gl, rfl, hcl⟩ := hal (by omega)
      have z0 : wr.cell? ⟨gl, i, none⟩ = some (.pointer (some ⟨hs[i].bh, 0, none⟩)) := by
        have := (hcl i (by omega)).trans (ptrs_at hs i hlt)
        rw [(bcell hb).1 _ _ (lt_of_cell this)]; exact this
      have HC := still_ok hs[i] wr (hr.hds _ (List.getElem_mem hlt))
      obtain ⟨dd, HDD⟩ : ∃ x, Hid (hs[i] = x) := ⟨hs[i], by unfold Hid; rfl⟩
      rw [HDD.out] at z0 HC
      have HB : Hid _ := hb
      have hbs := hb.size
      clear hr hcl hal hb
      go_wp2_with fail
      refine HC.mono ?_
      rintro e w1 ⟨rfl, hB1⟩
      clear HC
      go_wp2_with fail
      go_roundw
      case rel => exact ⟨i + 1, by omega, by go_num, HB.out.trans (hB1.mono hbs)⟩
      case measure => simp [intOf]; omega
    · have he : i = hs.length := by omega
      subst he
      have HB : Hid _ := hb
      clear hr hal hb
      go_wp2_with fail
      go_loopw [5, 6] (fun i' _ wi => i' = .int .i64 0 ∧ wi = wr) (fun _ _ _ => 0)
      case atStart => exact ⟨rfl, rfl⟩
      case round =>
        obtain ⟨rfl, hw⟩ := hrel
        subst hw
        go_wp2_with fail
        go_ret
        exact ⟨rfl, HB.out⟩
end Go.Proofs.YtnpbkpfjgnffkaaGreatDoor
