import Derived.Test.YtpngikmcjkjdaaaGreatDoorStep
import Derived.Test.YtpngikmcjkjdaaaGreatDoorAsked
namespace Go.Proofs.YtpngikmcjkjdaaaGreatDoor
open Go.RowKit
set_option linter.unusedVariables false

set_option maxRecDepth 20000 in
set_option maxHeartbeats 4000000 in
theorem step_ask3 (W0 w : World) (bw : Nat) (vts : Value) (hs : List Hd) (h : WdAt W0 w bw vts hs) (a b c d : Int) (s : ByteArray) (lo : Option Addr) (ll lc : Nat) (hn : hs.length ≤ 4398046511104)
    (ha : -9223372036854775808 ≤ a ∧ a ≤ 9223372036854775807) (hss : s.size ≤ maxLen) :
    Calls Tryz.prog 12 #[.pointer (some ⟨bw, 0, none⟩), .agg #[.int .i64 3, .int .i64 a, .int .i64 b, .int .i64 c, .int .i64 d, .string s, .slice lo ll lc]] w (StepPost W0 bw hs.length) := by
  obtain ⟨W, hW⟩ : ∃ W, W = w.alloc (.cells #[.int .i64 3, .int .i64 a, .int .i64 b, .int .i64 c, .int .i64 d, .string s, .slice lo ll lc] 33) := ⟨_, rfl⟩
  have BW : Below w.heap.size w W := by rw [hW]; exact (Below.refl _ _).alloc (Nat.le_refl _) _
  have hWs : w.heap.size < W.heap.size := by rw [hW]; simp
  have b0 : W.heap[w.heap.size]? = some (.cells #[.int .i64 3, .int .i64 a, .int .i64 b, .int .i64 c, .int .i64 d, .string s, .slice lo ll lc] 33 (0, 0)) := by rw [hW]; exact heap_at_new rfl
  have h1 := h.below BW
  obtain ⟨x0, x1, x2, x3, x4, x5, x6⟩ := cell_seven b0
  obtain ⟨y0, y1, y2, y3⟩ := cell_three h1.blk
  obtain ⟨al, cl, rfl, hal⟩ := ownsRow_shape h1.own
  go_enter Tryz.func12, Tryz.ntmps12
  go_upto_region 1 with fail
  rw [← hW]
  clear hW
  by_cases h0 : hs.length = 0
  · rw [h0] at y0
    have HF : Hid _ := h1
    go_wp2_with fail
    go_ret
    exact ⟨rfl, _, _, HF.out, by omega⟩
  · obtain ⟨gl, rfl, hcl⟩ := hal (by omega)
    obtain ⟨pi, HPI⟩ : ∃ x, Hid (lpickN a hs.length = x) := ⟨_, rfl⟩
    have hpi : pi < hs.length := by rw [← HPI.out]; exact lpickN_lt _ _ (by omega)
    have HP := lpick_ok a hs.length W.drew (by omega) (by omega) ha.1 ha.2
    rw [Int.toNat_natCast, HPI.out] at HP
    have z0 := (hcl pi (by omega)).trans (ptrs_at hs pi hpi)
    have hd := h1.hds _ (List.getElem_mem hpi)
    obtain ⟨dd, HDD⟩ : ∃ x, Hid (hs[pi] = x) := ⟨hs[pi], by unfold Hid; rfl⟩
    rw [HDD.out] at z0 hd
    have HQ := asked_run bw 3 a b c d s lo ll lc dd.t dd.A dd.X W.drew (hd.tl.below ((Below.refl _ _).drew)) hss (by decide)
    have HF : Hid (WdAt W0 W.drew bw (.slice (some ⟨gl, 0, none⟩) hs.length cl) hs) := h1.below ((Below.refl _ _).drew)
    obtain ⟨u0, u1, _, _⟩ := cell_four hd.blk
    have hne : ((hs.length : Int) == 0) = false := by rw [beq_eq_false_iff_ne]; omega
    have hgt2 : (pi : Int) < (hs.length : Int) := by omega
    have l1 := lt_of_cell y0
    have l2 := lt_of_cell z0
    have l3 := lt_of_cell u0
    clear h1 h hcl hal hd
    have KK : ∀ (w' : World) (k o : Nat), Below W.drew.heap.size W.drew w' → k < W.heap.size → w'.cell? ⟨k, o, none⟩ = W.cell? ⟨k, o, none⟩ := fun w' k o ht hk => World.cell?_of_block (a := ⟨k, o, none⟩) (ht.block k hk)
    go_upto_region 20 with fail
    go_region_held3 (fun w' => w'.cell? ⟨bw, 0, none⟩ = some (.slice (some ⟨gl, 0, none⟩) hs.length cl) ∧ w'.cell? ⟨w.heap.size, 0, none⟩ = some (.int .i64 3) ∧ w'.cell? ⟨w.heap.size, 1, none⟩ = some (.int .i64 a) ∧ w'.cell? ⟨w.heap.size, 2, none⟩ = some (.int .i64 b) ∧ w'.cell? ⟨w.heap.size, 3, none⟩ = some (.int .i64 c) ∧ w'.cell? ⟨w.heap.size, 4, none⟩ = some (.int .i64 d) ∧ w'.cell? ⟨w.heap.size, 5, none⟩ = some (.string s) ∧ w'.cell? ⟨w.heap.size, 6, none⟩ = some (.slice lo ll lc) ∧ w'.cell? ⟨gl, pi, none⟩ = some (.pointer (some ⟨dd.bh, 0, none⟩)) ∧ w'.cell? ⟨dd.bh, 0, none⟩ = some (.slice (some ⟨dd.t.ba, 0, none⟩) dd.t.na dd.t.ca) ∧ w'.cell? ⟨dd.bh, 1, none⟩ = some (.slice (some ⟨dd.t.bn, 0, none⟩) dd.t.nn dd.t.cn)) (go_keep)
      ((first
        | (go_at_call 16; refine HP.mono ?_; rintro e w' ⟨rfl, hw'⟩; obtain rfl : W.drew = w' := hw'.symm)
        | (go_at_call 21; refine HQ.mono ?_; rintro e w' ⟨rfl, hT⟩; have k0 := (KK w' bw 0 hT l1).trans y0; have k1 := (KK w' w.heap.size 0 hT hWs).trans x0; have k2 := (KK w' w.heap.size 1 hT hWs).trans x1; have k3 := (KK w' w.heap.size 2 hT hWs).trans x2; have k4 := (KK w' w.heap.size 3 hT hWs).trans x3; have k5 := (KK w' w.heap.size 4 hT hWs).trans x4; have k6 := (KK w' w.heap.size 5 hT hWs).trans x5; have k7 := (KK w' w.heap.size 6 hT hWs).trans x6; have k8 := (KK w' gl pi hT l2).trans z0; have k9 := (KK w' dd.bh 0 hT l3).trans u0; have k10 := (KK w' dd.bh 1 hT l3).trans u1; have HT2 : Hid (Below W.drew.heap.size W.drew w') := hT; clear hT)))
    all_goals go_wp2_with fail
    all_goals go_ret
    all_goals exact ⟨rfl, _, _, HF.out.below HT2.out, by omega⟩

set_option maxRecDepth 20000 in
set_option maxHeartbeats 4000000 in
theorem step_ask4 (W0 w : World) (bw : Nat) (vts : Value) (hs : List Hd) (h : WdAt W0 w bw vts hs) (a b c d : Int) (s : ByteArray) (lo : Option Addr) (ll lc : Nat) (hn : hs.length ≤ 4398046511104)
    (ha : -9223372036854775808 ≤ a ∧ a ≤ 9223372036854775807) (hss : s.size ≤ maxLen) :
    Calls Tryz.prog 12 #[.pointer (some ⟨bw, 0, none⟩), .agg #[.int .i64 4, .int .i64 a, .int .i64 b, .int .i64 c, .int .i64 d, .string s, .slice lo ll lc]] w (StepPost W0 bw hs.length) := by
  obtain ⟨W, hW⟩ : ∃ W, W = w.alloc (.cells #[.int .i64 4, .int .i64 a, .int .i64 b, .int .i64 c, .int .i64 d, .string s, .slice lo ll lc] 33) := ⟨_, rfl⟩
  have BW : Below w.heap.size w W := by rw [hW]; exact (Below.refl _ _).alloc (Nat.le_refl _) _
  have hWs : w.heap.size < W.heap.size := by rw [hW]; simp
  have b0 : W.heap[w.heap.size]? = some (.cells #[.int .i64 4, .int .i64 a, .int .i64 b, .int .i64 c, .int .i64 d, .string s, .slice lo ll lc] 33 (0, 0)) := by rw [hW]; exact heap_at_new rfl
  have h1 := h.below BW
  obtain ⟨x0, x1, x2, x3, x4, x5, x6⟩ := cell_seven b0
  obtain ⟨y0, y1, y2, y3⟩ := cell_three h1.blk
  obtain ⟨al, cl, rfl, hal⟩ := ownsRow_shape h1.own
  go_enter Tryz.func12, Tryz.ntmps12
  go_upto_region 1 with fail
  rw [← hW]
  clear hW
  by_cases h0 : hs.length = 0
  · rw [h0] at y0
    have HF : Hid _ := h1
    go_wp2_with fail
    go_ret
    exact ⟨rfl, _, _, HF.out, by omega⟩
  · obtain ⟨gl, rfl, hcl⟩ := hal (by omega)
    obtain ⟨pi, HPI⟩ : ∃ x, Hid (lpickN a hs.length = x) := ⟨_, rfl⟩
    have hpi : pi < hs.length := by rw [← HPI.out]; exact lpickN_lt _ _ (by omega)
    have HP := lpick_ok a hs.length W.drew (by omega) (by omega) ha.1 ha.2
    rw [Int.toNat_natCast, HPI.out] at HP
    have z0 := (hcl pi (by omega)).trans (ptrs_at hs pi hpi)
    have hd := h1.hds _ (List.getElem_mem hpi)
    obtain ⟨dd, HDD⟩ : ∃ x, Hid (hs[pi] = x) := ⟨hs[pi], by unfold Hid; rfl⟩
    rw [HDD.out] at z0 hd
    have HQ := asked_run bw 4 a b c d s lo ll lc dd.t dd.A dd.X W.drew (hd.tl.below ((Below.refl _ _).drew)) hss (by decide)
    have HF : Hid (WdAt W0 W.drew bw (.slice (some ⟨gl, 0, none⟩) hs.length cl) hs) := h1.below ((Below.refl _ _).drew)
    obtain ⟨u0, u1, _, _⟩ := cell_four hd.blk
    have hne : ((hs.length : Int) == 0) = false := by rw [beq_eq_false_iff_ne]; omega
    have hgt2 : (pi : Int) < (hs.length : Int) := by omega
    have l1 := lt_of_cell y0
    have l2 := lt_of_cell z0
    have l3 := lt_of_cell u0
    clear h1 h hcl hal hd
    have KK : ∀ (w' : World) (k o : Nat), Below W.drew.heap.size W.drew w' → k < W.heap.size → w'.cell? ⟨k, o, none⟩ = W.cell? ⟨k, o, none⟩ := fun w' k o ht hk => World.cell?_of_block (a := ⟨k, o, none⟩) (ht.block k hk)
    go_upto_region 20 with fail
    go_region_held3 (fun w' => w'.cell? ⟨bw, 0, none⟩ = some (.slice (some ⟨gl, 0, none⟩) hs.length cl) ∧ w'.cell? ⟨w.heap.size, 0, none⟩ = some (.int .i64 4) ∧ w'.cell? ⟨w.heap.size, 1, none⟩ = some (.int .i64 a) ∧ w'.cell? ⟨w.heap.size, 2, none⟩ = some (.int .i64 b) ∧ w'.cell? ⟨w.heap.size, 3, none⟩ = some (.int .i64 c) ∧ w'.cell? ⟨w.heap.size, 4, none⟩ = some (.int .i64 d) ∧ w'.cell? ⟨w.heap.size, 5, none⟩ = some (.string s) ∧ w'.cell? ⟨w.heap.size, 6, none⟩ = some (.slice lo ll lc) ∧ w'.cell? ⟨gl, pi, none⟩ = some (.pointer (some ⟨dd.bh, 0, none⟩)) ∧ w'.cell? ⟨dd.bh, 0, none⟩ = some (.slice (some ⟨dd.t.ba, 0, none⟩) dd.t.na dd.t.ca) ∧ w'.cell? ⟨dd.bh, 1, none⟩ = some (.slice (some ⟨dd.t.bn, 0, none⟩) dd.t.nn dd.t.cn)) (go_keep)
      ((first
        | (go_at_call 16; refine HP.mono ?_; rintro e w' ⟨rfl, hw'⟩; obtain rfl : W.drew = w' := hw'.symm)
        | (go_at_call 21; refine HQ.mono ?_; rintro e w' ⟨rfl, hT⟩; have k0 := (KK w' bw 0 hT l1).trans y0; have k1 := (KK w' w.heap.size 0 hT hWs).trans x0; have k2 := (KK w' w.heap.size 1 hT hWs).trans x1; have k3 := (KK w' w.heap.size 2 hT hWs).trans x2; have k4 := (KK w' w.heap.size 3 hT hWs).trans x3; have k5 := (KK w' w.heap.size 4 hT hWs).trans x4; have k6 := (KK w' w.heap.size 5 hT hWs).trans x5; have k7 := (KK w' w.heap.size 6 hT hWs).trans x6; have k8 := (KK w' gl pi hT l2).trans z0; have k9 := (KK w' dd.bh 0 hT l3).trans u0; have k10 := (KK w' dd.bh 1 hT l3).trans u1; have HT2 : Hid (Below W.drew.heap.size W.drew w') := hT; clear hT)))
    all_goals go_wp2_with fail
    all_goals go_ret
    all_goals exact ⟨rfl, _, _, HF.out.below HT2.out, by omega⟩
end Go.Proofs.YtpngikmcjkjdaaaGreatDoor
