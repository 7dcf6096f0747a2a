import Derived.Test.YtpngikmcjkjdaaaGreatDoorWorldP
namespace Go.Proofs.YtpngikmcjkjdaaaGreatDoor
open Go.RowKit
set_option linter.unusedVariables false

def StepPost (W0 : Fw) (bw n : Nat) (e : Ending) (w' : World) : Prop := e = .returned (.bool true) ∧ ∃ vts' hs', WdAt W0 w' bw vts' hs' ∧ hs'.length ≤ n + 1
theorem Tryz.infoH : (Tryz.prog.info? 36).map (fun i => (i.zero, i.size, i.bytes)) = some (some (.pointer none), 1, 8) := by kernel_rfl

set_option maxRecDepth 20000 in
set_option maxHeartbeats 4000000 in
theorem step_table (W0 : Fw) (w : World) (bw : Nat) (vts : Value) (hs : List Hd) (h : WdAt W0 w bw vts hs) (a b c d : Int) (s : ByteArray) (lo : Option Addr) (ll lc : Nat) (z : Nat → Int) (hL : LCode w lo ll z) (hn : hs.length ≤ 4398046511104) :
    Calls Tryz.prog 12 #[.pointer (some ⟨bw, 0, none⟩), .agg #[.int .i64 1, .int .i64 a, .int .i64 b, .int .i64 c, .int .i64 d, .string s, .slice lo ll lc]] w (StepPost W0 bw hs.length) := by
  obtain ⟨i0, hi0, hz0, hz01, hz02⟩ := info_parts Tryz.infoH
  obtain ⟨W, hW⟩ : ∃ W, W = w.alloc (.cells #[.int .i64 1, .int .i64 a, .int .i64 b, .int .i64 c, .int .i64 d, .string s, .slice lo ll lc] 33) := ⟨_, rfl⟩
  have BW : Below w.heap.size w W := by rw [hW]; exact (Below.refl _ _).alloc (Nat.le_refl _) _
  have hWs : w.heap.size < W.heap.size := by rw [hW]; simp
  have b0 : W.heap[w.heap.size]? = some (.cells #[.int .i64 1, .int .i64 a, .int .i64 b, .int .i64 c, .int .i64 d, .string s, .slice lo ll lc] 33 (0, 0)) := by rw [hW]; exact heap_at_new rfl
  have HC := raw_mk lo ll lc z b W (hL.below BW)
  obtain ⟨x0, _, x2, _, _, _, x6⟩ := cell_seven b0
  go_enter Tryz.func12, Tryz.ntmps12
  go_upto_region 1 with fail
  rw [← hW]
  clear hW
  go_wp2_with fail
  refine HC.mono ?_
  rintro e w1 ⟨hB1, t, A, X, rfl, hT, ra, rn, rr, drr⟩
  have hs1 := hB1.size
  have HC2 := hold_ok t A X W.heap.size w1 hT ra rn rr drr
  clear HC x0 x2 x6
  go_wp2_with fail
  refine HC2.mono ?_
  rintro e w2 ⟨hB2, dd, rfl, hD, _, _, _, hlo, _⟩
  have hs2 := hB2.size
  have hB : Below w.heap.size w w2 := (BW.trans (hB1.mono (by omega))).trans (hB2.mono (by omega))
  have h2 := h.below hB
  obtain ⟨y0, y1, y2, y3⟩ := cell_three h2.blk
  have hbs := heap_lt h2.blk
  have hna := (h2.below ((Below.refl _ _).alloc (Nat.le_refl _) (.cells #[.pointer (some ⟨dd.bh, 0, none⟩)] 36))).own
  have HG : ∀ (g cap : Nat) (w3 : World), w3.ownsRow (bw + 1) 36 1 (.slice (some ⟨g, 0, none⟩) (hs.length + 1) cap) (hs.length + 1) (ptrs hs ++ [.pointer (some ⟨dd.bh, 0, none⟩)]) → (w2.alloc (.cells #[.pointer (some ⟨dd.bh, 0, none⟩)] 36)).grownBy w3 vts.ownBlock → (vts.ownBlock = some g ∨ g = (w2.alloc (.cells #[.pointer (some ⟨dd.bh, 0, none⟩)] 36)).heap.size) →
      w3.heap[bw]? = some (.cells #[vts, W0.vbs, W0.vtx] 31 (0, 0)) ∧ Hid (WdAt W0 (w3.setCell ⟨bw, 0, none⟩ (.slice (some ⟨g, 0, none⟩) (hs.length + 1) cap)) bw (.slice (some ⟨g, 0, none⟩) (hs.length + 1) cap) (hs ++ [dd])) := by
    intro g cap w3 ho hg hf
    exact h.add hB hD (by omega) ho hg hf
  clear HC2 hB1 hB2 hT hL
  go_wp2_with (at_builtin; refine wpList_append_fresh _ rfl _ _ 27 rfl (bw + 1) 36 i0 (.pointer none) 1 8 Tryz.underlying27 hi0 hz0 hz01 hz02 rfl (by decide) _ hs.length _ rfl hna ⟨w2.heap.size, 0, none⟩ 1 1 [.pointer (some ⟨dd.bh, 0, none⟩)] rfl rfl (cell_one_new _ _ _) (by intro u hu; simp at hu; subst hu; rfl) (by decide) (by unfold maxLen; omega) (by omega) (by simp; omega) ?_; intro g cap w3 hown hgr hfr; obtain ⟨f0, F⟩ := HG g cap w3 hown hgr hfr; obtain ⟨f1, f2, f3, f4⟩ := cell_three f0)
  go_ret
  exact ⟨rfl, _, _, F.out, by simp⟩

set_option maxRecDepth 20000 in
set_option maxHeartbeats 4000000 in
theorem step_write (W0 : Fw) (w : World) (bw : Nat) (vts : Value) (hs : List Hd) (h : WdAt W0 w bw vts hs) (a b c d : Int) (s : ByteArray) (lo : Option Addr) (ll lc : Nat) (hn : hs.length ≤ 4398046511104)
    (ha : -9223372036854775808 ≤ a ∧ a ≤ 9223372036854775807) (hb : -9223372036854775808 ≤ b ∧ b ≤ 9223372036854775807) (hc : -9223372036854775808 ≤ c ∧ c ≤ 9223372036854775807) :
    Calls Tryz.prog 12 #[.pointer (some ⟨bw, 0, none⟩), .agg #[.int .i64 2, .int .i64 a, .int .i64 b, .int .i64 c, .int .i64 d, .string s, .slice lo ll lc]] w (StepPost W0 bw hs.length) := by
  obtain ⟨W, hW⟩ : ∃ W, W = w.alloc (.cells #[.int .i64 2, .int .i64 a, .int .i64 b, .int .i64 c, .int .i64 d, .string s, .slice lo ll lc] 33) := ⟨_, rfl⟩
  have BW : Below w.heap.size w W := by rw [hW]; exact (Below.refl _ _).alloc (Nat.le_refl _) _
  have hWs : w.heap.size < W.heap.size := by rw [hW]; simp
  have b0 : W.heap[w.heap.size]? = some (.cells #[.int .i64 2, .int .i64 a, .int .i64 b, .int .i64 c, .int .i64 d, .string s, .slice lo ll lc] 33 (0, 0)) := by rw [hW]; exact heap_at_new rfl
  have h1 := h.below BW
  obtain ⟨x0, x1, x2, x3, x4, _, _⟩ := cell_seven b0
  obtain ⟨y0, y1, y2, y3⟩ := cell_three h1.blk
  obtain ⟨al, cl, rfl, hal⟩ := ownsRow_shape h1.own
  go_enter Tryz.func12, Tryz.ntmps12
  go_upto_region 1 with fail
  rw [← hW]
  clear hW
  by_cases h0 : hs.length = 0
  · rw [h0] at y0
    have HF : Hid _ := h1
    go_wp2_with fail
    go_ret
    exact ⟨rfl, _, _, HF.out, by omega⟩
  · obtain ⟨gl, rfl, hcl⟩ := hal (by omega)
    obtain ⟨pi, HPI⟩ : ∃ x, Hid (lpickN a hs.length = x) := ⟨_, rfl⟩
    have hpi : pi < hs.length := by rw [← HPI.out]; exact lpickN_lt _ _ (by omega)
    have HP := lpick_ok a hs.length W.drew (by omega) (by omega) ha.1 ha.2
    rw [Int.toNat_natCast, HPI.out] at HP
    have z0 := (hcl pi (by omega)).trans (ptrs_at hs pi hpi)
    have HQ := write_ok hs[pi] b c d W.drew ((h1.hds _ (List.getElem_mem hpi)).below ((Below.refl _ _).drew)) hb.1 hb.2 hc.1 hc.2
    have HF : Hid (WdAt W0 W.drew bw (.slice (some ⟨gl, 0, none⟩) hs.length cl) hs) := h1.below ((Below.refl _ _).drew)
    have v0 := HF.out.lo _ (List.getElem_mem hpi)
    have v1 := (HF.out.hds _ (List.getElem_mem hpi)).siz
    have v2 := HF.out.tsf gl rfl _ (List.getElem_mem hpi)
    have v3 : hs[pi].hi ≤ w.heap.size := (h.hds _ (List.getElem_mem hpi)).siz
    have v4 := (HF.out.own.lt gl rfl).2
    have v5 := heap_lt HF.out.blk
    obtain ⟨dd, HDD⟩ : ∃ x, Hid (hs[pi] = x) := ⟨hs[pi], by unfold Hid; rfl⟩
    rw [HDD.out] at z0 HQ v0 v1 v2 v3
    have KK : ∀ (w' : World) (k o : Nat), Touch (fun b => dd.lo ≤ b ∧ b < dd.hi) W.drew w' → k < W.heap.size → ¬ (dd.lo ≤ k ∧ k < dd.hi) → w'.cell? ⟨k, o, none⟩ = W.cell? ⟨k, o, none⟩ := fun w' k o ht hk hne => World.cell?_of_block (a := ⟨k, o, none⟩) (ht.block k hk hne)
    have hgt : (0 : Int) < (hs.length : Int) := by omega
    have hgt2 : (pi : Int) < (hs.length : Int) := by omega
    clear h1 h hcl hal
    go_upto_region 8 with fail
    go_region_held3 (fun w' => w'.cell? ⟨bw, 0, none⟩ = some (.slice (some ⟨gl, 0, none⟩) hs.length cl) ∧ w'.cell? ⟨w.heap.size, 1, none⟩ = some (.int .i64 a) ∧ w'.cell? ⟨w.heap.size, 2, none⟩ = some (.int .i64 b) ∧ w'.cell? ⟨w.heap.size, 3, none⟩ = some (.int .i64 c) ∧ w'.cell? ⟨w.heap.size, 4, none⟩ = some (.int .i64 d) ∧ w'.cell? ⟨gl, pi, none⟩ = some (.pointer (some ⟨dd.bh, 0, none⟩))) (go_keep)
      ((first
        | (go_at_call 16; refine HP.mono ?_; rintro e w' ⟨rfl, hw'⟩; obtain rfl : W.drew = w' := hw'.symm)
        | (go_at_call 17; refine HQ.mono ?_; rintro e w' ⟨rfl, A, X, hD, hT⟩; have u0 := (KK w' bw 0 hT (by simpa using v5) (by omega)).trans y0; have u1 := (KK w' w.heap.size 1 hT (by omega) (by omega)).trans x1; have u2 := (KK w' w.heap.size 2 hT (by omega) (by omega)).trans x2; have u3 := (KK w' w.heap.size 3 hT (by omega) (by omega)).trans x3; have u4 := (KK w' w.heap.size 4 hT (by omega) (by omega)).trans x4; have u5 := (KK w' gl pi hT (by simpa using v4) (by omega)).trans z0; have HD2 : Hid (HdAt w' { dd with A := A, X := X }) := hD; have HT2 : Hid (Touch (fun b => dd.lo ≤ b ∧ b < dd.hi) W.drew w') := hT; clear hD hT)))
    all_goals go_wp2_with fail
    all_goals go_ret
    all_goals
      have hD := HD2.out
      have hT := HT2.out
      rw [← HDD.out] at hD hT
      exact ⟨rfl, _, _, HF.out.put hpi hD hT, by simp⟩


set_option maxRecDepth 20000 in
set_option maxHeartbeats 4000000 in
theorem looks_ok (Wo w : World) (bw : Nat) (vts : Value) (hs : List Hd) (h : WdAt (.plain Wo) w bw vts hs) (hn : hs.length ≤ 4398046511104) :
    Calls Tryz.prog 13 #[.pointer (some ⟨bw, 0, none⟩)] w fun e w' => e = .returned (.bool true) ∧ Below w.heap.size w w' := by
  obtain ⟨al, cl, rfl, hal⟩ := ownsRow_shape h.own
  go_enter Tryz.func13, Tryz.ntmps13
  go_wp2_with fail
  go_loopw [3, 4] (fun i' _ wr => ∃ i : Nat, i ≤ hs.length ∧ i' = .int .i64 i ∧ Below w.heap.size w wr) (fun i' _ _ => hs.length - (intOf i').toNat)
  case atStart => exact ⟨0, by omega, rfl, Below.refl _ _⟩
  case round =>
    obtain ⟨i, hi, rfl, hb⟩ := hrel
    have hr := h.below hb
    obtain ⟨y0, y1, y2, y3⟩ := cell_three hr.blk
    replace y2 : wr.cell? ⟨bw, 2, none⟩ = some (.slice none 0 0) := y2
    by_cases hlt : i < hs.length
    · obtain ⟨gl, rfl, hcl⟩ := hal (by omega)
      have z0 : wr.cell? ⟨gl, i, none⟩ = some (.pointer (some ⟨hs[i].bh, 0, none⟩)) := by
        have := (hcl i (by omega)).trans (ptrs_at hs i hlt)
        rw [(bcell hb).1 _ _ (lt_of_cell this)]; exact this
      have HC := still_ok hs[i] wr (hr.hds _ (List.getElem_mem hlt))
      obtain ⟨dd, HDD⟩ : ∃ x, Hid (hs[i] = x) := ⟨hs[i], by unfold Hid; rfl⟩
      rw [HDD.out] at z0 HC
      have HB : Hid _ := hb
      have hbs := hb.size
      clear hr hcl hal hb
      go_wp2_with fail
      refine HC.mono ?_
      rintro e w1 ⟨rfl, hB1⟩
      clear HC
      go_wp2_with fail
      go_roundw
      case rel => exact ⟨i + 1, by omega, by go_num, HB.out.trans (hB1.mono hbs)⟩
      case measure => simp [intOf]; omega
    · have he : i = hs.length := by omega
      subst he
      have HB : Hid _ := hb
      clear hr hal hb
      go_wp2_with fail
      go_loopw [5, 6] (fun i' _ wi => i' = .int .i64 0 ∧ wi = wr) (fun _ _ _ => 0)
      case atStart => exact ⟨rfl, rfl⟩
      case round =>
        obtain ⟨rfl, hw⟩ := hrel
        subst hw
        go_wp2_with fail
        go_ret
        exact ⟨rfl, HB.out⟩
end Go.Proofs.YtpngikmcjkjdaaaGreatDoor
