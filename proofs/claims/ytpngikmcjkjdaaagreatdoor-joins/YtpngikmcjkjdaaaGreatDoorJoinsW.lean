import Derived.Test.YtpngikmcjkjdaaaGreatDoorAskedL
import Derived.Test.YtpngikmcjkjdaaaGreatDoorRefBoth
import Derived.Test.YtpngikmcjkjdaaaGreatDoorJoinNo2
import Derived.Test.YtpngikmcjkjdaaaGreatDoorStep
import Derived.Test.YtpngikmcjkjdaaaGreatDoorScript
import Derived.Test.YtpngikmcjkjdaaaGreatDoorStepAskL
namespace Go.Proofs.YtpngikmcjkjdaaaGreatDoor
open Go.RowKit
set_option linter.unusedVariables false

set_option maxRecDepth 20000 in
set_option maxHeartbeats 8000000 in
theorem asked_join (W0 w : World) (bw : Nat) (vts : Value) (hs : List Hd) (hw : WdAt W0 w bw vts hs) (hn : hs.length ≤ 4398046511104) (a b c d : Int) (s : ByteArray) (lo : Option Addr) (ll lc : Nat) (t : TL) (A : Nat → Bool) (X : Nat → Nat → Int) (h : TLAt w t A X) (hne : 0 < hs.length) (hb : -9223372036854775808 ≤ b ∧ b ≤ 9223372036854775807) :
    Calls Tryz.prog 21 #[.pointer (some ⟨bw, 0, none⟩), .agg #[.int .i64 7, .int .i64 a, .int .i64 b, .int .i64 c, .int .i64 d, .string s, .slice lo ll lc], .agg #[.slice (some ⟨t.ba, 0, none⟩) t.na t.ca, .slice (some ⟨t.bn, 0, none⟩) t.nn t.cn]] w
      (fun e w' => StepPost W0 bw hs.length e w' ∧ Kept bw vts w w') := by
  have g1 := h.na
  have g2 := h.ca
  have g4 := h.nn
  have g5 := h.cn
  obtain ⟨W, hW⟩ : ∃ W, W = (w.alloc (.cells #[.int .i64 7, .int .i64 a, .int .i64 b, .int .i64 c, .int .i64 d, .string s, .slice lo ll lc] 33)).alloc (.cells #[.slice (some ⟨t.ba, 0, none⟩) t.na t.ca, .slice (some ⟨t.bn, 0, none⟩) t.nn t.cn] 41) := ⟨_, rfl⟩
  have BW : Below w.heap.size w W := by rw [hW]; exact ((Below.refl _ _).alloc (Nat.le_refl _) _).alloc (by simp) _
  have hWs : w.heap.size + 1 < W.heap.size := by rw [hW]; simp
  have b0 : W.heap[w.heap.size]? = some (.cells #[.int .i64 7, .int .i64 a, .int .i64 b, .int .i64 c, .int .i64 d, .string s, .slice lo ll lc] 33 (0, 0)) := by rw [hW]; exact heap_at_old (heap_at_new rfl)
  have b1 : W.heap[w.heap.size + 1]? = some (.cells #[.slice (some ⟨t.ba, 0, none⟩) t.na t.ca, .slice (some ⟨t.bn, 0, none⟩) t.nn t.cn] 41 (0, 0)) := by rw [hW]; exact heap_at_new (by simp)
  have hR := (h.below BW).raw
  have HC := copied_ok _ _ _ _ _ _ _ _ _ A X W hR (by omega) (by omega) (fun i hi => by have := h.rl i (by omega); have := h.rc i (by omega); omega)
  have hbl : ∀ i, i < t.nn → t.rl i ≤ 9223372036854775807 := fun i hi => by have := h.rl i (by omega); have := h.rc i (by omega); omega
  go_enter Tryz.func21, Tryz.ntmps21
  go_wp2_with fail
  rw [← hW]
  clear hW
  refine Calls.mono HC ?_
  clear HC
  rintro e w1 ⟨hB1, ga, ca', gn, cn', rb, rc, rfl, hC⟩
  have hs1 := hB1.size
  have hR1 := hR.below hB1
  have c0 := (hB1.block _ (by omega)).trans b0
  have c1 := (hB1.block _ (by omega)).trans b1
  rw [lstv_eq, lstv_eq]
  have hM := hC.raw ca' cn' (by omega) (by omega) hbl
  clear b0 b1 hC
  generalize (if t.na = 0 then none else some (⟨ga, 0, none⟩ : Addr)) = ma at hM ⊢
  generalize (if t.nn = 0 then none else some (⟨gn, 0, none⟩ : Addr)) = mn at hM ⊢
  generalize (if t.na = 0 then 0 else ca') = mca at hM ⊢
  generalize (if t.nn = 0 then 0 else cn') = mcn at hM ⊢
  go_upto_region 2 with fail
  obtain ⟨W2, hW2⟩ : ∃ W2, W2 = w1.alloc (.cells #[.slice ma t.na mca, .slice mn t.nn mcn] 41) := ⟨_, rfl⟩
  have hB2 : Below w1.heap.size w1 W2 := by rw [hW2]; exact (Below.refl _ _).alloc (Nat.le_refl _) _
  have hs2 : w1.heap.size < W2.heap.size := by rw [hW2]; simp
  have c2 : W2.heap[w1.heap.size]? = some (.cells #[.slice ma t.na mca, .slice mn t.nn mcn] 41 (0, 0)) := by rw [hW2]; exact heap_at_new rfl
  have d0 := (hB2.block _ (by omega)).trans c0
  have d1 := (hB2.block _ (by omega)).trans c1
  have hR2 := hR1.below hB2
  have hM2 := hM.below hB2
  have BW2 : Below w.heap.size w W2 := (BW.trans (hB1.mono (by omega))).trans (hB2.mono (by omega))
  rw [← hW2]
  clear hW2 c0 c1 hB1 hB2 hR hR1 hM BW h
  have hw2 := hw.below BW2
  obtain ⟨x0, _, x2, x3, x4, _, _⟩ := cell_seven d0
  obtain ⟨y0, y1, _, _⟩ := cell_two d1
  obtain ⟨z0, z1, _, _⟩ := cell_two c2
  obtain ⟨al, cl, rfl, hal⟩ := ownsRow_shape hw2.own
  obtain ⟨gl, rfl, hcl⟩ := hal hne
  obtain ⟨pi, HPI⟩ : ∃ x, Hid (lpickN b hs.length = x) := ⟨_, rfl⟩
  have hpi : pi < hs.length := by rw [← HPI.out]; exact lpickN_lt _ _ (by omega)
  have HP := fun w => lpick_ok b hs.length w (by omega) (by omega) hb.1 hb.2
  rw [Int.toNat_natCast, HPI.out] at HP
  have v0 := (hcl pi (by omega)).trans (ptrs_at hs pi hpi)
  have hd := hw2.hds _ (List.getElem_mem hpi)
  obtain ⟨dd, HDD⟩ : ∃ x, Hid (hs[pi] = x) := ⟨hs[pi], by unfold Hid; rfl⟩
  rw [HDD.out] at v0 hd
  obtain ⟨v1, _, _, _⟩ := cell_three hw2.blk
  obtain ⟨u0, u1, _, _⟩ := cell_four hd.blk
  have hgt2 : (pi : Int) < (hs.length : Int) := by omega
  have hD : TLAt W2 dd.t dd.A dd.X := hd.tl
  clear hal hcl hd HDD
  have HH1 : Hid _ := hw2
  have HH2 : Hid _ := hR2
  have HH3 : Hid _ := hM2
  have HH4 : Hid _ := hD
  have HH5 : Hid _ := d0
  have HH6 : Hid _ := d1
  have HH7 : Hid _ := c2
  have HH8 : Hid _ := BW2
  clear hw2 hR2 hM2 hD d0 d1 c2 BW2
  go_upto_region 20 with fail
  go_cut [26] (fun p26 wc => p26 = .pointer (some ⟨W2.heap.size, 0, none⟩) ∧ wc = (W2.alloc (.cells #[.slice (some ⟨dd.t.ba, 0, none⟩) dd.t.na dd.t.ca, .slice (some ⟨dd.t.bn, 0, none⟩) dd.t.nn dd.t.cn] 41)).drew)
  case first =>
    refine wp_region_noPanic ?_
    refine wp_region_held_drew (S := (fun w' => w'.cell? ⟨bw, 0, none⟩ = some (.slice (some ⟨gl, 0, none⟩) hs.length cl) ∧ w'.cell? ⟨w.heap.size, 2, none⟩ = some (.int .i64 b) ∧ w'.cell? ⟨gl, pi, none⟩ = some (.pointer (some ⟨dd.bh, 0, none⟩)) ∧ w'.cell? ⟨dd.bh, 0, none⟩ = some (.slice (some ⟨dd.t.ba, 0, none⟩) dd.t.na dd.t.ca) ∧ w'.cell? ⟨dd.bh, 1, none⟩ = some (.slice (some ⟨dd.t.bn, 0, none⟩) dd.t.nn dd.t.cn))) (by kernel_rfl) ?_ (fun hHeld0 => ?_)
    · (try dsimp only); go_keep
    refine wpAnyH_take (i := 0) (v := ?_) (by simp only [List.getElem?_toArray, List.getElem?_cons_zero]; exact rfl) (by kernel_rfl) (by kernel_rfl) (by kernel_rfl) (fun _ _ _ h => h) (Or.inl ⟨by rfl, ?_⟩) (by assumption) ?_
    rotate_left 1
    · intro wq hSq; (try dsimp only at hSq); go_simp; try with_reducible rfl
    try simp only [Act.put, List.setIfInBounds_toArray, List.set_cons_zero, List.set_cons_succ]
    refine wpAnyH_take (i := 1) (v := ?_) (by simp only [List.getElem?_toArray, List.getElem?_cons_succ, List.getElem?_cons_zero]; exact rfl) (by kernel_rfl) (by kernel_rfl) (by kernel_rfl) (fun _ _ _ h => h) (Or.inl ⟨by rfl, ?_⟩) (by assumption) ?_
    rotate_left 1
    · intro wq hSq; (try dsimp only at hSq); go_simp; try with_reducible rfl
    try simp only [Act.put, List.setIfInBounds_toArray, List.set_cons_zero, List.set_cons_succ]
    refine wpAnyH_take (i := 2) (v := ?_) (by simp only [List.getElem?_toArray, List.getElem?_cons_succ, List.getElem?_cons_zero]; exact rfl) (by kernel_rfl) (by kernel_rfl) (by kernel_rfl) (fun _ _ _ h => h) (Or.inl ⟨by rfl, ?_⟩) (by assumption) ?_
    rotate_left 1
    · intro wq hSq; (try dsimp only at hSq); go_simp; try with_reducible rfl
    try simp only [Act.put, List.setIfInBounds_toArray, List.set_cons_zero, List.set_cons_succ]
    refine wpAnyH_take (i := 3) (v := ?_) (by simp only [List.getElem?_toArray, List.getElem?_cons_succ, List.getElem?_cons_zero]; exact rfl) (by kernel_rfl) (by kernel_rfl) (by kernel_rfl) (fun _ _ _ h => h) (Or.inl ⟨by rfl, ?_⟩) (by assumption) ?_
    rotate_left 1
    · intro wq hSq; (try dsimp only at hSq); go_simp; try with_reducible rfl
    try simp only [Act.put, List.setIfInBounds_toArray, List.set_cons_zero, List.set_cons_succ]
    refine wpAnyH_take (i := 4) (v := ?_) (by simp only [List.getElem?_toArray, List.getElem?_cons_succ, List.getElem?_cons_zero]; exact rfl) (by kernel_rfl) (by kernel_rfl) (by kernel_rfl) (fun _ _ _ h => h) (Or.inl ⟨by rfl, ?_⟩) (by assumption) ?_
    rotate_left 1
    · intro wq hSq; (try dsimp only at hSq); go_simp; try with_reducible rfl
    try simp only [Act.put, List.setIfInBounds_toArray, List.set_cons_zero, List.set_cons_succ]
    refine wpAnyH_take (i := 5) (v := ?_) (by simp only [List.getElem?_toArray, List.getElem?_cons_succ, List.getElem?_cons_zero]; exact rfl) (by kernel_rfl) (by kernel_rfl) (by kernel_rfl) (fun _ _ _ h => h) (Or.inl ⟨by rfl, ?_⟩) (by assumption) ?_
    rotate_left 1
    · intro wq hSq; (try dsimp only at hSq); go_simp; try with_reducible rfl
    try simp only [Act.put, List.setIfInBounds_toArray, List.set_cons_zero, List.set_cons_succ]
    refine wpAnyH_take (i := 6) (v := ?_) (by simp only [List.getElem?_toArray, List.getElem?_cons_succ, List.getElem?_cons_zero]; exact rfl) (by kernel_rfl) (by kernel_rfl) (by kernel_rfl) (fun _ _ _ h => h) (Or.inl ⟨by rfl, ?_⟩) (by assumption) ?_
    rotate_left 1
    · intro wq hSq; (try dsimp only at hSq); go_simp; try with_reducible rfl
    try simp only [Act.put, List.setIfInBounds_toArray, List.set_cons_zero, List.set_cons_succ]
    refine wpAnyH_take (i := 7) (v := ?_) (by simp only [List.getElem?_toArray, List.getElem?_cons_succ, List.getElem?_cons_zero]; exact rfl) (by kernel_rfl) (by kernel_rfl) (by kernel_rfl) (fun _ _ _ h => h) (Or.inl ⟨by rfl, ?_⟩) (by assumption) ?_
    rotate_left 1
    · intro wq hSq; (try dsimp only at hSq); go_simp; try with_reducible rfl
    try simp only [Act.put, List.setIfInBounds_toArray, List.set_cons_zero, List.set_cons_succ]
    refine wpAnyH_take (i := 8) (v := ?_) (by simp only [List.getElem?_toArray, List.getElem?_cons_succ, List.getElem?_cons_zero]; exact rfl) (by kernel_rfl) (by kernel_rfl) (by kernel_rfl) (fun _ _ _ h => h) (Or.inl ⟨by rfl, ?_⟩) (by assumption) ?_
    rotate_left 1
    · intro wq hSq; (try dsimp only at hSq); go_simp; try with_reducible rfl
    try simp only [Act.put, List.setIfInBounds_toArray, List.set_cons_zero, List.set_cons_succ]
    refine wpAnyH_take (i := 9) (v := ?_) (by simp only [List.getElem?_toArray, List.getElem?_cons_succ, List.getElem?_cons_zero]; exact rfl) (by kernel_rfl) (by kernel_rfl) (by kernel_rfl) (fun _ _ _ h => h) (Or.inl ⟨by rfl, ?_⟩) (by assumption) ?_
    rotate_left 1
    · intro wq hSq; (try dsimp only at hSq); go_simp; try with_reducible rfl
    try simp only [Act.put, List.setIfInBounds_toArray, List.set_cons_zero, List.set_cons_succ]
    refine wpAnyH_take (i := 10) (v := ?_) (by simp only [List.getElem?_toArray, List.getElem?_cons_succ, List.getElem?_cons_zero]; exact rfl) (by kernel_rfl) (by kernel_rfl) (by kernel_rfl) (fun _ _ _ h => h) (Or.inl ⟨by rfl, ?_⟩) (by assumption) ?_
    rotate_left 1
    · intro wq hSq; (try dsimp only at hSq); go_simp; try with_reducible rfl
    try simp only [Act.put, List.setIfInBounds_toArray, List.set_cons_zero, List.set_cons_succ]
    refine wpAnyH_ready (rs := [11, 17]) (by kernel_rfl) (by simp) ?_
    refine AllReadyH.cons (by simp only [List.getElem?_toArray, List.getElem?_cons_succ, List.getElem?_cons_zero]; exact rfl) (fun K hK => ?_) ?_
    · go_simp
      refine (HP _).mono ?_
      rintro e w' ⟨rfl, rfl⟩
      try dsimp only
      refine hK.out _ _ ?_ (fun hHeld1 => ?_)
      · (try dsimp only); go_keep
      clear hK K hHeld0
      try simp only [Act.put, List.setIfInBounds_toArray, List.set_cons_zero, List.set_cons_succ]
      refine wpAnyH_take (i := 12) (v := ?_) (by simp only [List.getElem?_toArray, List.getElem?_cons_succ, List.getElem?_cons_zero]; exact rfl) (by kernel_rfl) (by kernel_rfl) (by kernel_rfl) (fun _ _ _ h => h) (Or.inl ⟨by rfl, ?_⟩) (by assumption) ?_
      rotate_left 1
      · intro wq hSq; (try dsimp only at hSq); go_simp; try with_reducible rfl
      try simp only [Act.put, List.setIfInBounds_toArray, List.set_cons_zero, List.set_cons_succ]
      refine wpAnyH_take (i := 13) (v := ?_) (by simp only [List.getElem?_toArray, List.getElem?_cons_succ, List.getElem?_cons_zero]; exact rfl) (by kernel_rfl) (by kernel_rfl) (by kernel_rfl) (fun _ _ _ h => h) (Or.inl ⟨by rfl, ?_⟩) (by assumption) ?_
      rotate_left 1
      · intro wq hSq; (try dsimp only at hSq); go_simp; try with_reducible rfl
      try simp only [Act.put, List.setIfInBounds_toArray, List.set_cons_zero, List.set_cons_succ]
      refine wpAnyH_take (i := 14) (v := ?_) (by simp only [List.getElem?_toArray, List.getElem?_cons_succ, List.getElem?_cons_zero]; exact rfl) (by kernel_rfl) (by kernel_rfl) (by kernel_rfl) (fun _ _ _ h => h) (Or.inl ⟨by rfl, ?_⟩) (by assumption) ?_
      rotate_left 1
      · intro wq hSq; (try dsimp only at hSq); go_simp; try with_reducible rfl
      try simp only [Act.put, List.setIfInBounds_toArray, List.set_cons_zero, List.set_cons_succ]
      refine wpAnyH_take (i := 15) (v := ?_) (by simp only [List.getElem?_toArray, List.getElem?_cons_succ, List.getElem?_cons_zero]; exact rfl) (by kernel_rfl) (by kernel_rfl) (by kernel_rfl) (fun _ _ _ h => h) (Or.inl ⟨by rfl, ?_⟩) (by assumption) ?_
      rotate_left 1
      · intro wq hSq; (try dsimp only at hSq); go_simp; try with_reducible rfl
      try simp only [Act.put, List.setIfInBounds_toArray, List.set_cons_zero, List.set_cons_succ]
      refine wpAnyH_take (i := 16) (v := ?_) (by simp only [List.getElem?_toArray, List.getElem?_cons_succ, List.getElem?_cons_zero]; exact rfl) (by kernel_rfl) (by kernel_rfl) (by kernel_rfl) (fun _ _ _ h => h) (Or.inl ⟨by rfl, ?_⟩) (by assumption) ?_
      rotate_left 1
      · intro wq hSq; (try dsimp only at hSq); go_simp; try with_reducible rfl
      try simp only [Act.put, List.setIfInBounds_toArray, List.set_cons_zero, List.set_cons_succ]
      refine wpAnyH_ready (rs := [17]) (by kernel_rfl) (by simp) ?_
      refine AllReadyH.cons (by simp only [List.getElem?_toArray, List.getElem?_cons_succ, List.getElem?_cons_zero]; exact rfl) (fun K hK => ?_) ?_
      · go_simp
        refine hK.out _ _ ?_ (fun hHeld2 => ?_)
        · (try dsimp only); go_keep
        clear hK K hHeld1
        try simp only [Act.put, List.setIfInBounds_toArray, List.set_cons_zero, List.set_cons_succ]
        refine wpAnyH_ready (rs := [18]) (by kernel_rfl) (by simp) ?_
        refine AllReadyH.cons (by simp only [List.getElem?_toArray, List.getElem?_cons_succ, List.getElem?_cons_zero]; exact rfl) (fun K hK => ?_) ?_
        · go_simp
          refine hK.out _ _ ?_ (fun hHeld3 => ?_)
          · (try dsimp only); go_keep
          clear hK K hHeld2
          try simp only [Act.put, List.setIfInBounds_toArray, List.set_cons_zero, List.set_cons_succ]
          refine wpAnyH_done (by kernel_rfl) ?_ _
          refine NoPanic.normal ?_
          go_wp2_with fail
          go_meet
          exact ⟨rfl, rfl⟩
        exact AllReadyH.nil
      exact AllReadyH.nil
    refine AllReadyH.cons (by simp only [List.getElem?_toArray, List.getElem?_cons_succ, List.getElem?_cons_zero]; exact rfl) (fun K hK => ?_) ?_
    · go_simp
      refine hK.out _ _ ?_ (fun hHeld4 => ?_)
      · (try dsimp only); go_keep
      clear hK K hHeld0
      try simp only [Act.put, List.setIfInBounds_toArray, List.set_cons_zero, List.set_cons_succ]
      refine wpAnyH_ready (rs := [11]) (by kernel_rfl) (by simp) ?_
      refine AllReadyH.cons (by simp only [List.getElem?_toArray, List.getElem?_cons_succ, List.getElem?_cons_zero]; exact rfl) (fun K hK => ?_) ?_
      · go_simp
        refine (HP _).mono ?_
        rintro e w' ⟨rfl, rfl⟩
        try dsimp only
        refine hK.out _ _ ?_ (fun hHeld5 => ?_)
        · (try dsimp only); go_keep
        clear hK K hHeld4
        try simp only [Act.put, List.setIfInBounds_toArray, List.set_cons_zero, List.set_cons_succ]
        refine wpAnyH_take (i := 12) (v := ?_) (by simp only [List.getElem?_toArray, List.getElem?_cons_succ, List.getElem?_cons_zero]; exact rfl) (by kernel_rfl) (by kernel_rfl) (by kernel_rfl) (fun _ _ _ h => h) (Or.inl ⟨by rfl, ?_⟩) (by assumption) ?_
        rotate_left 1
        · intro wq hSq; (try dsimp only at hSq); go_simp; try with_reducible rfl
        try simp only [Act.put, List.setIfInBounds_toArray, List.set_cons_zero, List.set_cons_succ]
        refine wpAnyH_take (i := 13) (v := ?_) (by simp only [List.getElem?_toArray, List.getElem?_cons_succ, List.getElem?_cons_zero]; exact rfl) (by kernel_rfl) (by kernel_rfl) (by kernel_rfl) (fun _ _ _ h => h) (Or.inl ⟨by rfl, ?_⟩) (by assumption) ?_
        rotate_left 1
        · intro wq hSq; (try dsimp only at hSq); go_simp; try with_reducible rfl
        try simp only [Act.put, List.setIfInBounds_toArray, List.set_cons_zero, List.set_cons_succ]
        refine wpAnyH_take (i := 14) (v := ?_) (by simp only [List.getElem?_toArray, List.getElem?_cons_succ, List.getElem?_cons_zero]; exact rfl) (by kernel_rfl) (by kernel_rfl) (by kernel_rfl) (fun _ _ _ h => h) (Or.inl ⟨by rfl, ?_⟩) (by assumption) ?_
        rotate_left 1
        · intro wq hSq; (try dsimp only at hSq); go_simp; try with_reducible rfl
        try simp only [Act.put, List.setIfInBounds_toArray, List.set_cons_zero, List.set_cons_succ]
        refine wpAnyH_take (i := 15) (v := ?_) (by simp only [List.getElem?_toArray, List.getElem?_cons_succ, List.getElem?_cons_zero]; exact rfl) (by kernel_rfl) (by kernel_rfl) (by kernel_rfl) (fun _ _ _ h => h) (Or.inl ⟨by rfl, ?_⟩) (by assumption) ?_
        rotate_left 1
        · intro wq hSq; (try dsimp only at hSq); go_simp; try with_reducible rfl
        try simp only [Act.put, List.setIfInBounds_toArray, List.set_cons_zero, List.set_cons_succ]
        refine wpAnyH_take (i := 16) (v := ?_) (by simp only [List.getElem?_toArray, List.getElem?_cons_succ, List.getElem?_cons_zero]; exact rfl) (by kernel_rfl) (by kernel_rfl) (by kernel_rfl) (fun _ _ _ h => h) (Or.inl ⟨by rfl, ?_⟩) (by assumption) ?_
        rotate_left 1
        · intro wq hSq; (try dsimp only at hSq); go_simp; try with_reducible rfl
        try simp only [Act.put, List.setIfInBounds_toArray, List.set_cons_zero, List.set_cons_succ]
        refine wpAnyH_ready (rs := [18]) (by kernel_rfl) (by simp) ?_
        refine AllReadyH.cons (by simp only [List.getElem?_toArray, List.getElem?_cons_succ, List.getElem?_cons_zero]; exact rfl) (fun K hK => ?_) ?_
        · go_simp
          refine hK.out _ _ ?_ (fun hHeld6 => ?_)
          · (try dsimp only); go_keep
          clear hK K hHeld5
          try simp only [Act.put, List.setIfInBounds_toArray, List.set_cons_zero, List.set_cons_succ]
          refine wpAnyH_done (by kernel_rfl) ?_ _
          refine NoPanic.normal ?_
          go_wp2_with fail
          go_meet
          exact ⟨rfl, rfl⟩
        exact AllReadyH.nil
      exact AllReadyH.nil
    exact AllReadyH.nil
  case rest =>
    obtain ⟨rfl, hwc⟩ := hcut
    have bc : Below W2.heap.size W2 wc := by rw [hwc]; exact ((Below.refl _ _).alloc (Nat.le_refl _) _).drew
    have sc : W2.heap.size < wc.heap.size := by rw [hwc]; simp
    have q0 : wc.heap[W2.heap.size]? = some (.cells #[.slice (some ⟨dd.t.ba, 0, none⟩) dd.t.na dd.t.ca, .slice (some ⟨dd.t.bn, 0, none⟩) dd.t.nn dd.t.cn] 41 (0, 0)) := by rw [hwc]; exact heap_at_new rfl
    clear hwc x0 x2 x3 x4 y0 y1 z0 z1 v0 v1 u0 u1 HP
    have hD3 := HH4.out.below bc
    have gd1 := hD3.na
    have gd2 := hD3.ca
    have gd4 := hD3.nn
    have gd5 := hD3.cn
    have HC := copied_ok _ _ _ _ _ _ _ _ _ dd.A dd.X wc hD3.raw (by omega) (by omega) (fun i hi => by have := hD3.rl i (by omega); have := hD3.rc i (by omega); omega)
    have hbl2 : ∀ i, i < dd.t.nn → dd.t.rl i ≤ 9223372036854775807 := fun i hi => by have := hD3.rl i (by omega); have := hD3.rc i (by omega); omega
    obtain ⟨k0, k1, _, _⟩ := cell_two q0
    go_wp2_with fail
    refine Calls.mono HC ?_
    clear HC
    rintro e w4 ⟨hB4, ga4, ca4, gn4, cn4, rb4, rc4, rfl, hC4⟩
    have hs4 := hB4.size
    rw [lstv_eq, lstv_eq]
    have hMd := hC4.raw ca4 cn4 (by omega) (by omega) hbl2
    have hRd := hD3.raw.below hB4
    clear hC4 k0 k1
    generalize (if dd.t.na = 0 then none else some (⟨ga4, 0, none⟩ : Addr)) = oa at hMd ⊢
    generalize (if dd.t.nn = 0 then none else some (⟨gn4, 0, none⟩ : Addr)) = on at hMd ⊢
    generalize (if dd.t.na = 0 then 0 else ca4) = oca at hMd ⊢
    generalize (if dd.t.nn = 0 then 0 else cn4) = ocn at hMd ⊢
    go_upto_region 22 with fail
    obtain ⟨W5, hW5⟩ : ∃ W5, W5 = w4.alloc (.cells #[.slice oa dd.t.na oca, .slice on dd.t.nn ocn] 41) := ⟨_, rfl⟩
    have bW5 : Below w4.heap.size w4 W5 := by rw [hW5]; exact (Below.refl _ _).alloc (Nat.le_refl _) _
    have sW5 : w4.heap.size < W5.heap.size := by rw [hW5]; simp
    have qW5 : W5.heap[w4.heap.size]? = some (.cells #[.slice oa dd.t.na oca, .slice on dd.t.nn ocn] 41 (0, 0)) := by rw [hW5]; exact heap_at_new rfl
    rw [← hW5]
    clear hW5
    have B5 : Below W2.heap.size W2 W5 := (bc.trans (hB4.mono (by omega))).trans (bW5.mono (by omega))
    have B5c : Below wc.heap.size wc W5 := hB4.trans (bW5.mono (by omega))
    have hR5 := HH2.out.below B5
    have hD5 := hRd.below bW5
    have hN5 := hMd.below bW5
    have hM5 := HH3.out.below B5
    obtain ⟨_, _, _, x3, x4, _, _⟩ := cell_seven ((B5.block _ (by omega)).trans HH5.out)
    obtain ⟨y0, y1, _, _⟩ := cell_two ((B5.block _ (by omega)).trans HH6.out)
    obtain ⟨k0, k1, _, _⟩ := cell_two ((B5c.block _ (by omega)).trans q0)
    have hEq : joinErr ⟨ma, mn, t.na, mca, t.nn, mcn, fun i => if t.rl i = 0 then none else some ⟨rb i, 0, none⟩, t.rl, fun i => if t.rl i = 0 then 0 else rc i⟩ ⟨oa, on, dd.t.na, oca, dd.t.nn, ocn, fun i => if dd.t.rl i = 0 then none else some ⟨rb4 i, 0, none⟩, dd.t.rl, fun i => if dd.t.rl i = 0 then 0 else rc4 i⟩ X dd.X c d = joinErr t.lay dd.t.lay X dd.X c d := by
      unfold joinErr
      rw [rawOk_congr (r := ⟨ma, mn, t.na, mca, t.nn, mcn, fun i => if t.rl i = 0 then none else some ⟨rb i, 0, none⟩, t.rl, fun i => if t.rl i = 0 then 0 else rc i⟩) (r' := t.lay) (X := X) rfl rfl rfl, rawOk_congr (r := ⟨oa, on, dd.t.na, oca, dd.t.nn, ocn, fun i => if dd.t.rl i = 0 then none else some ⟨rb4 i, 0, none⟩, dd.t.rl, fun i => if dd.t.rl i = 0 then 0 else rc4 i⟩) (r' := dd.t.lay) (X := dd.X) rfl rfl rfl]
    clear hMd hRd hB4 bc bW5 q0 HH2 HH3 HH4 hD3
    by_cases hje : joinErr t.lay dd.t.lay X dd.X c d = 0
    · have hj := hje
      unfold joinErr at hj
      cases hok1 : rawOk t.lay X
      · rw [hok1] at hj; simp at hj
      cases hok2 : rawOk dd.t.lay dd.X
      · rw [hok1, hok2] at hj; simp at hj
      rw [hok1, hok2] at hj
      simp only [Bool.true_eq_false, if_false] at hj
      have hc03 : 0 ≤ c ∧ c ≤ 3 := by
        refine Classical.byContradiction (fun hn' => ?_)
        rw [if_pos (by omega)] at hj; omega
      rw [if_neg (by omega)] at hj
      have hd40 : 1 ≤ d ∧ d ≤ 40 := by
        refine Classical.byContradiction (fun hn' => ?_)
        rw [if_pos (by omega)] at hj; omega
      have hok1' := (rawOk_congr (r := ⟨ma, mn, t.na, mca, t.nn, mcn, fun i => if t.rl i = 0 then none else some ⟨rb i, 0, none⟩, t.rl, fun i => if t.rl i = 0 then 0 else rc i⟩) (r' := t.lay) (X := X) rfl rfl rfl).trans hok1
      have hok2' := (rawOk_congr (r := ⟨oa, on, dd.t.na, oca, dd.t.nn, ocn, fun i => if dd.t.rl i = 0 then none else some ⟨rb4 i, 0, none⟩, dd.t.rl, fun i => if dd.t.rl i = 0 then 0 else rc4 i⟩) (r' := dd.t.lay) (X := dd.X) rfl rfl rfl).trans hok2
      clear hj hje hEq
      obtain ⟨V1, eV1, hV1⟩ := rawTab_at hR5 hok1
      obtain ⟨V2, eV2, hV2⟩ := rawTab_at hD5 hok2
      have HC := join_ok V1 V2 _ _ c d W5 (rawTab_ok hok1) (rawTab_ok hok2) hV1 hV2 hc03.1 hc03.2 hd40.1 hd40.2
      rw [← eV1, ← eV2] at HC
      simp only [RLay.val, TL.lay] at HC
      have HV1 := rawTab_ok (A := A) hok1'
      have HV2 := rawTab_ok (A := dd.A) hok2'
      clear eV1 hV1 eV2 hV2 hR5 hD5
      go_wp2_with fail
      refine HC.mono ?_
      clear HC
      rintro e w6 ⟨hB6, ⟨R, Vr, hR, hRd, rfl, hTr, hFr, hFs⟩ | ⟨rfl, hbud, hRn⟩⟩
      · have hs6 := hB6.size
        go_upto_region 23 with fail
        obtain ⟨W6, hW6⟩ : ∃ W6, W6 = w6.alloc (.cells #[.slice (some ⟨Vr.ba, Vr.oa, none⟩) R.n Vr.ca, .slice (some ⟨Vr.bn, Vr.on, none⟩) R.n Vr.cn] 41) := ⟨_, rfl⟩
        have bW6 : Below w6.heap.size w6 W6 := by rw [hW6]; exact (Below.refl _ _).alloc (Nat.le_refl _) _
        have sW6 : w6.heap.size < W6.heap.size := by rw [hW6]; simp
        have qW6 : W6.heap[w6.heap.size]? = some (.cells #[.slice (some ⟨Vr.ba, Vr.oa, none⟩) R.n Vr.ca, .slice (some ⟨Vr.bn, Vr.on, none⟩) R.n Vr.cn] 41 (0, 0)) := by rw [hW6]; exact heap_at_new rfl
        rw [← hW6]
        clear hW6
        have b56 : Below W5.heap.size W5 W6 := hB6.trans (bW6.mono (by omega))
        have B6 : Below W2.heap.size W2 W6 := B5.trans (b56.mono (by omega))
        obtain ⟨V3, eV3, hV3⟩ := rawTab_at (hM5.below b56) hok1'
        obtain ⟨V4, eV4, hV4⟩ := rawTab_at (hN5.below b56) hok2'
        have HC2 := refJoin_ok both_ok V3 V4 _ _ c d W6 HV1 HV2 hV3 hV4 hc03.1 hc03.2 hd40.1 hd40.2
        rw [← eV3, ← eV4] at HC2
        simp only [RLay.val] at HC2
        obtain ⟨z0, z1, _, _⟩ := cell_two ((B6.block _ (by omega)).trans HH7.out)
        obtain ⟨z2, z3, _, _⟩ := cell_two ((b56.block _ (by omega)).trans qW5)
        obtain ⟨_, _, _, z4, z5, _, _⟩ := cell_seven ((B6.block _ (by omega)).trans HH5.out)
        have HR : Hid _ := hR
        have HTr : Hid _ := hTr
        have HFr : Hid _ := hFr
        have HFs : Hid _ := hFs
        clear hok1 hok2 hok1' hok2' eV3 hV3 eV4 hV4 x3 x4 y0 y1 k0 k1 hM5 hN5 hR hTr hFr hFs HV1 HV2
        go_wp2_with fail
        refine HC2.mono ?_
        clear HC2
        rintro e w7 ⟨hB7, ⟨U, Q, hQ, hQd, rfl, hU⟩ | ⟨rfl, Q, hQ, hQd⟩⟩
        · have hs7 := hB7.size
          go_upto_region 24 with fail
          obtain ⟨W7, hW7⟩ : ∃ W7, W7 = w7.alloc (.cells #[.slice (some ⟨U.ba, U.oa, none⟩) Q.n U.ca, .slice (some ⟨U.bn, U.on, none⟩) Q.n U.cn] 41) := ⟨_, rfl⟩
          have bW7 : Below w7.heap.size w7 W7 := by rw [hW7]; exact (Below.refl _ _).alloc (Nat.le_refl _) _
          have sW7 : w7.heap.size < W7.heap.size := by rw [hW7]; simp
          have qW7 : W7.heap[w7.heap.size]? = some (.cells #[.slice (some ⟨U.ba, U.oa, none⟩) Q.n U.ca, .slice (some ⟨U.bn, U.on, none⟩) Q.n U.cn] 41 (0, 0)) := by rw [hW7]; exact heap_at_new rfl
          rw [← hW7]
          clear hW7
          have BC : Below W6.heap.size W6 W7 := hB7.trans (bW7.mono (by omega))
          have BB : Below W2.heap.size W2 W7 := B6.trans (BC.mono (by omega))
          have BD : Below w6.heap.size w6 W7 := bW6.trans (BC.mono (by omega))
          obtain ⟨f0, f1, _, _⟩ := cell_two ((BC.block _ (by omega)).trans qW6)
          obtain ⟨g0, g1, _, _⟩ := cell_two qW7
          have hFF : Vr.From W2.heap.size R.n := HFr.out.mono (by have := B5.size; omega)
          have HC3 := table_ok W0 W2 W7 bw (.slice (some ⟨gl, 0, none⟩) hs.length cl) hs HH1.out BB hn Vr U R Q (fun x => joinB c ((rawTab t.lay A X).accepts x) ((rawTab dd.t.lay dd.A dd.X).accepts x)) HR.out hQ (HTr.out.below BD) (HFs.out.below BD) hFF (hU.below bW7) (by omega)
          clear z0 z1 z2 z3 z4 z5 BC BD hB7 bW7 bW6 qW6 qW7 hQ HR HTr HFr HFs hU hFF
          go_wp2_with fail
          refine HC3.mono ?_
          clear HC3
          rintro e w8 ⟨⟨rfl, vts', hs', hW', hl'⟩, hK⟩
          have HF : Hid _ := hW'
          have HK : Hid (Kept bw (.slice (some ⟨gl, 0, none⟩) hs.length cl) w w8) := Kept.from HH8.out hK
          clear hK
          clear hW' f0 f1 g0 g1
          go_wp2_with fail
          go_ret
          exact ⟨⟨rfl, vts', hs', HF.out, hl'⟩, HK.out⟩
        · exfalso
          have := (least_unique HR.out hQ).n
          omega
      · have hs6 := hB6.size
        go_upto_region 23 with fail
        obtain ⟨W6, hW6⟩ : ∃ W6, W6 = w6.alloc (.cells #[.slice none 0 0, .slice none 0 0] 41) := ⟨_, rfl⟩
        have bW6 : Below w6.heap.size w6 W6 := by rw [hW6]; exact (Below.refl _ _).alloc (Nat.le_refl _) _
        have sW6 : w6.heap.size < W6.heap.size := by rw [hW6]; simp
        have qW6 : W6.heap[w6.heap.size]? = some (.cells #[.slice none 0 0, .slice none 0 0] 41 (0, 0)) := by rw [hW6]; exact heap_at_new rfl
        rw [← hW6]
        clear hW6
        have b56 : Below W5.heap.size W5 W6 := hB6.trans (bW6.mono (by omega))
        have B6 : Below W2.heap.size W2 W6 := B5.trans (b56.mono (by omega))
        obtain ⟨V3, eV3, hV3⟩ := rawTab_at (hM5.below b56) hok1'
        obtain ⟨V4, eV4, hV4⟩ := rawTab_at (hN5.below b56) hok2'
        have HC2 := refJoin_ok both_ok V3 V4 _ _ c d W6 HV1 HV2 hV3 hV4 hc03.1 hc03.2 hd40.1 hd40.2
        rw [← eV3, ← eV4] at HC2
        simp only [RLay.val] at HC2
        obtain ⟨z0, z1, _, _⟩ := cell_two ((B6.block _ (by omega)).trans HH7.out)
        obtain ⟨z2, z3, _, _⟩ := cell_two ((b56.block _ (by omega)).trans qW5)
        obtain ⟨_, _, _, z4, z5, _, _⟩ := cell_seven ((B6.block _ (by omega)).trans HH5.out)
        have HRN : Hid _ := hRn
        clear hok1 hok2 hok1' hok2' eV3 hV3 eV4 hV4 x3 x4 y0 y1 k0 k1 hM5 hN5 hRn HV1 HV2
        go_wp2_with fail
        refine HC2.mono ?_
        clear HC2
        rintro e w7 ⟨hB7, ⟨U, Q, hQ, hQd, rfl, hU⟩ | ⟨rfl, Q, hQ, hQd⟩⟩
        · exfalso
          have := HRN.out Q hQ
          omega
        · have hs7 := hB7.size
          go_upto_region 24 with fail
          obtain ⟨W7, hW7⟩ : ∃ W7, W7 = w7.alloc (.cells #[.slice none 0 0, .slice none 0 0] 41) := ⟨_, rfl⟩
          have bW7 : Below w7.heap.size w7 W7 := by rw [hW7]; exact (Below.refl _ _).alloc (Nat.le_refl _) _
          have sW7 : w7.heap.size < W7.heap.size := by rw [hW7]; simp
          have qW7 : W7.heap[w7.heap.size]? = some (.cells #[.slice none 0 0, .slice none 0 0] 41 (0, 0)) := by rw [hW7]; exact heap_at_new rfl
          rw [← hW7]
          clear hW7
          have BC : Below W6.heap.size W6 W7 := hB7.trans (bW7.mono (by omega))
          have BB : Below W2.heap.size W2 W7 := B6.trans (BC.mono (by omega))
          obtain ⟨f0, f1, _, _⟩ := cell_two ((BC.block _ (by omega)).trans qW6)
          obtain ⟨g0, g1, _, _⟩ := cell_two qW7
          have HC3 := table_err bw 5 W7 (by decide)
          clear z0 z1 z2 z3 z4 z5 BC hB7 bW7 qW6 qW7
          go_wp2_with fail
          refine HC3.mono ?_
          clear HC3
          rintro e w8 ⟨rfl, hB8⟩
          have HF : Hid (WdAt W0 w8 bw (.slice (some ⟨gl, 0, none⟩) hs.length cl) hs) := HH1.out.below (BB.trans (hB8.mono (by omega)))
          have HK : Hid (Kept bw (.slice (some ⟨gl, 0, none⟩) hs.length cl) w w8) := Kept.from HH8.out (Kept.of_below (BB.trans (hB8.mono (by omega))))
          clear hB8 BB f0 f1 g0 g1
          go_wp2_with fail
          go_ret
          exact ⟨⟨rfl, _, _, HF.out, by omega⟩, HK.out⟩
    · have HC := join_no t.lay dd.t.lay A dd.A X dd.X c d W5 hR5 hD5 hje
      simp only [TL.lay] at HC
      have hje2 : joinErr ⟨ma, mn, t.na, mca, t.nn, mcn, fun i => if t.rl i = 0 then none else some ⟨rb i, 0, none⟩, t.rl, fun i => if t.rl i = 0 then 0 else rc i⟩ ⟨oa, on, dd.t.na, oca, dd.t.nn, ocn, fun i => if dd.t.rl i = 0 then none else some ⟨rb4 i, 0, none⟩, dd.t.rl, fun i => if dd.t.rl i = 0 then 0 else rc4 i⟩ X dd.X c d ≠ 0 := by rw [hEq]; exact hje
      have HE2 : Hid _ := hEq
      obtain ⟨er, HE⟩ : ∃ x, Hid (joinErr t.lay dd.t.lay X dd.X c d = x) := ⟨_, rfl⟩
      have hee := HE.out
      simp only [TL.lay] at hee
      rw [hee] at HC
      have her : er ≠ 0 := by rw [← HE.out]; exact hje
      clear hje hR5 hD5 hee hEq
      go_wp2_with fail
      refine HC.mono ?_
      clear HC
      rintro e w6 ⟨rfl, hB6⟩
      have hs6 := hB6.size
      go_upto_region 23 with fail
      obtain ⟨W6, hW6⟩ : ∃ W6, W6 = w6.alloc (.cells #[.slice none 0 0, .slice none 0 0] 41) := ⟨_, rfl⟩
      have bW6 : Below w6.heap.size w6 W6 := by rw [hW6]; exact (Below.refl _ _).alloc (Nat.le_refl _) _
      have sW6 : w6.heap.size < W6.heap.size := by rw [hW6]; simp
      have qW6 : W6.heap[w6.heap.size]? = some (.cells #[.slice none 0 0, .slice none 0 0] 41 (0, 0)) := by rw [hW6]; exact heap_at_new rfl
      rw [← hW6]
      clear hW6
      have b56 : Below W5.heap.size W5 W6 := hB6.trans (bW6.mono (by omega))
      have B6 : Below W2.heap.size W2 W6 := B5.trans (b56.mono (by omega))
      have HC2 := refJoin_no ⟨ma, mn, t.na, mca, t.nn, mcn, fun i => if t.rl i = 0 then none else some ⟨rb i, 0, none⟩, t.rl, fun i => if t.rl i = 0 then 0 else rc i⟩ ⟨oa, on, dd.t.na, oca, dd.t.nn, ocn, fun i => if dd.t.rl i = 0 then none else some ⟨rb4 i, 0, none⟩, dd.t.rl, fun i => if dd.t.rl i = 0 then 0 else rc4 i⟩ A dd.A X dd.X c d W6 (hM5.below b56) (hN5.below b56) hje2
      rw [HE2.out, HE.out] at HC2
      simp only at HC2
      obtain ⟨z0, z1, _, _⟩ := cell_two ((B6.block _ (by omega)).trans HH7.out)
      obtain ⟨z2, z3, _, _⟩ := cell_two ((b56.block _ (by omega)).trans qW5)
      obtain ⟨_, _, _, z4, z5, _, _⟩ := cell_seven ((B6.block _ (by omega)).trans HH5.out)
      clear hje2 x3 x4 y0 y1 k0 k1 hM5 hN5
      go_wp2_with fail
      refine HC2.mono ?_
      clear HC2
      rintro e w7 ⟨rfl, hB7⟩
      have hs7 := hB7.size
      go_upto_region 24 with fail
      obtain ⟨W7, hW7⟩ : ∃ W7, W7 = w7.alloc (.cells #[.slice none 0 0, .slice none 0 0] 41) := ⟨_, rfl⟩
      have bW7 : Below w7.heap.size w7 W7 := by rw [hW7]; exact (Below.refl _ _).alloc (Nat.le_refl _) _
      have sW7 : w7.heap.size < W7.heap.size := by rw [hW7]; simp
      have qW7 : W7.heap[w7.heap.size]? = some (.cells #[.slice none 0 0, .slice none 0 0] 41 (0, 0)) := by rw [hW7]; exact heap_at_new rfl
      rw [← hW7]
      clear hW7
      have BC : Below W6.heap.size W6 W7 := hB7.trans (bW7.mono (by omega))
      have BB : Below W2.heap.size W2 W7 := B6.trans (BC.mono (by omega))
      obtain ⟨f0, f1, _, _⟩ := cell_two ((BC.block _ (by omega)).trans qW6)
      obtain ⟨g0, g1, _, _⟩ := cell_two qW7
      have HC3 := table_err bw er W7 her
      clear z0 z1 z2 z3 z4 z5 BC hB7 bW7 qW6 qW7
      go_wp2_with fail
      refine HC3.mono ?_
      clear HC3
      rintro e w8 ⟨rfl, hB8⟩
      have HF : Hid (WdAt W0 w8 bw (.slice (some ⟨gl, 0, none⟩) hs.length cl) hs) := HH1.out.below (BB.trans (hB8.mono (by omega)))
      have HK : Hid (Kept bw (.slice (some ⟨gl, 0, none⟩) hs.length cl) w w8) := Kept.from HH8.out (Kept.of_below (BB.trans (hB8.mono (by omega))))
      clear hB8 BB f0 f1 g0 g1
      go_wp2_with fail
      go_ret
      exact ⟨⟨rfl, _, _, HF.out, by omega⟩, HK.out⟩
end Go.Proofs.YtpngikmcjkjdaaaGreatDoor

namespace Go.Proofs.YtpngikmcjkjdaaaGreatDoor
open Go.RowKit
set_option linter.unusedVariables false

set_option maxRecDepth 20000 in
set_option maxHeartbeats 16000000 in
theorem step_ask7 (W0 w : World) (bw : Nat) (vts : Value) (hs : List Hd) (h : WdAt W0 w bw vts hs) (a b c d : Int) (s : ByteArray) (lo : Option Addr) (ll lc : Nat) (hn : hs.length ≤ 4398046511104)
    (ha : -9223372036854775808 ≤ a ∧ a ≤ 9223372036854775807) (hb : -9223372036854775808 ≤ b ∧ b ≤ 9223372036854775807) :
    Calls Tryz.prog 12 #[.pointer (some ⟨bw, 0, none⟩), .agg #[.int .i64 7, .int .i64 a, .int .i64 b, .int .i64 c, .int .i64 d, .string s, .slice lo ll lc]] w (StepPost W0 bw hs.length) := by
  obtain ⟨W, hW⟩ : ∃ W, W = w.alloc (.cells #[.int .i64 7, .int .i64 a, .int .i64 b, .int .i64 c, .int .i64 d, .string s, .slice lo ll lc] 33) := ⟨_, rfl⟩
  have BW : Below w.heap.size w W := by rw [hW]; exact (Below.refl _ _).alloc (Nat.le_refl _) _
  have hWs : w.heap.size < W.heap.size := by rw [hW]; simp
  have b0 : W.heap[w.heap.size]? = some (.cells #[.int .i64 7, .int .i64 a, .int .i64 b, .int .i64 c, .int .i64 d, .string s, .slice lo ll lc] 33 (0, 0)) := by rw [hW]; exact heap_at_new rfl
  have h1 := h.below BW
  obtain ⟨x0, x1, x2, x3, x4, x5, x6⟩ := cell_seven b0
  obtain ⟨y0, y1, y2, y3⟩ := cell_three h1.blk
  obtain ⟨al, cl, rfl, hal⟩ := ownsRow_shape h1.own
  go_enter Tryz.func12, Tryz.ntmps12
  go_upto_region 1 with fail
  rw [← hW]
  clear hW
  by_cases h0 : hs.length = 0
  · rw [h0] at y0
    have HF : Hid _ := h1
    go_wp2_with fail
    go_ret
    exact ⟨rfl, _, _, HF.out, by omega⟩
  · obtain ⟨gl, rfl, hcl⟩ := hal (by omega)
    obtain ⟨pi, HPI⟩ : ∃ x, Hid (lpickN a hs.length = x) := ⟨_, rfl⟩
    have hpi : pi < hs.length := by rw [← HPI.out]; exact lpickN_lt _ _ (by omega)
    have HP := lpick_ok a hs.length W.drew (by omega) (by omega) ha.1 ha.2
    rw [Int.toNat_natCast, HPI.out] at HP
    have z0 := (hcl pi (by omega)).trans (ptrs_at hs pi hpi)
    have hd := h1.hds _ (List.getElem_mem hpi)
    obtain ⟨dd, HDD⟩ : ∃ x, Hid (hs[pi] = x) := ⟨hs[pi], by unfold Hid; rfl⟩
    rw [HDD.out] at z0 hd
    have HQ := asked_join W0 W.drew bw (.slice (some ⟨gl, 0, none⟩) hs.length cl) hs (h1.below ((Below.refl _ _).drew)) hn a b c d s lo ll lc dd.t dd.A dd.X (hd.tl.below ((Below.refl _ _).drew)) (by omega) hb
    obtain ⟨u0, u1, _, _⟩ := cell_four hd.blk
    have hne : ((hs.length : Int) == 0) = false := by rw [beq_eq_false_iff_ne]; omega
    have hgt2 : (pi : Int) < (hs.length : Int) := by omega
    have l1 := heap_lt h.blk
    have l2 := (h.own.lt gl rfl).2
    have hbk := b0
    have hgl : gl ≠ w.heap.size := by omega
    clear h1 h hcl hal hd b0 y1 y2 y3 BW HDD
    have KK : ∀ (w' : World), Kept bw (.slice (some ⟨gl, 0, none⟩) hs.length cl) W.drew w' → w'.heap[w.heap.size]? = some (.cells #[.int .i64 7, .int .i64 a, .int .i64 b, .int .i64 c, .int .i64 d, .string s, .slice lo ll lc] 33 (0, 0)) := fun w' hk => (hk w.heap.size hWs (by omega) (fun e => hgl (by simpa [Value.ownBlock] using e))).trans hbk
    clear hbk
    go_upto_region 20 with fail
    refine wp_region_noPanic ?_
    refine wp_region_held_drew (S := (fun w' => w'.cell? ⟨w.heap.size, 0, none⟩ = some (.int .i64 7) ∧ w'.cell? ⟨w.heap.size, 1, none⟩ = some (.int .i64 a) ∧ w'.cell? ⟨w.heap.size, 2, none⟩ = some (.int .i64 b) ∧ w'.cell? ⟨w.heap.size, 3, none⟩ = some (.int .i64 c) ∧ w'.cell? ⟨w.heap.size, 4, none⟩ = some (.int .i64 d) ∧ w'.cell? ⟨w.heap.size, 5, none⟩ = some (.string s) ∧ w'.cell? ⟨w.heap.size, 6, none⟩ = some (.slice lo ll lc))) (by kernel_rfl) ?_ (fun hHeld0 => ?_)
    · (try dsimp only); go_keep
    refine wpAnyH_take (i := 0) (v := ?_) (by simp only [List.getElem?_toArray, List.getElem?_cons_zero]; exact rfl) (by kernel_rfl) (by kernel_rfl) (by kernel_rfl) (fun _ _ _ h => h) (Or.inl ⟨by rfl, ?_⟩) (by assumption) ?_
    rotate_left 1
    · intro wq hSq; (try dsimp only at hSq); go_simp; try with_reducible rfl
    try simp only [Act.put, List.setIfInBounds_toArray, List.set_cons_zero, List.set_cons_succ]
    refine wpAnyH_take (i := 1) (v := ?_) (by simp only [List.getElem?_toArray, List.getElem?_cons_succ, List.getElem?_cons_zero]; exact rfl) (by kernel_rfl) (by kernel_rfl) (by kernel_rfl) (fun _ _ _ h => h) (Or.inl ⟨by rfl, ?_⟩) (by assumption) ?_
    rotate_left 1
    · intro wq hSq; (try dsimp only at hSq); go_simp; try with_reducible rfl
    try simp only [Act.put, List.setIfInBounds_toArray, List.set_cons_zero, List.set_cons_succ]
    refine wpAnyH_take (i := 2) (v := ?_) (by simp only [List.getElem?_toArray, List.getElem?_cons_succ, List.getElem?_cons_zero]; exact rfl) (by kernel_rfl) (by kernel_rfl) (by kernel_rfl) (fun _ _ _ h => h) (Or.inl ⟨by rfl, ?_⟩) (by assumption) ?_
    rotate_left 1
    · intro wq hSq; (try dsimp only at hSq); go_simp; try with_reducible rfl
    try simp only [Act.put, List.setIfInBounds_toArray, List.set_cons_zero, List.set_cons_succ]
    refine wpAnyH_take (i := 3) (v := ?_) (by simp only [List.getElem?_toArray, List.getElem?_cons_succ, List.getElem?_cons_zero]; exact rfl) (by kernel_rfl) (by kernel_rfl) (by kernel_rfl) (fun _ _ _ h => h) (Or.inl ⟨by rfl, ?_⟩) (by assumption) ?_
    rotate_left 1
    · intro wq hSq; (try dsimp only at hSq); go_simp; try with_reducible rfl
    try simp only [Act.put, List.setIfInBounds_toArray, List.set_cons_zero, List.set_cons_succ]
    refine wpAnyH_take (i := 4) (v := ?_) (by simp only [List.getElem?_toArray, List.getElem?_cons_succ, List.getElem?_cons_zero]; exact rfl) (by kernel_rfl) (by kernel_rfl) (by kernel_rfl) (fun _ _ _ h => h) (Or.inl ⟨by rfl, ?_⟩) (by assumption) ?_
    rotate_left 1
    · intro wq hSq; (try dsimp only at hSq); go_simp; try with_reducible rfl
    try simp only [Act.put, List.setIfInBounds_toArray, List.set_cons_zero, List.set_cons_succ]
    refine wpAnyH_take (i := 6) (v := ?_) (by simp only [List.getElem?_toArray, List.getElem?_cons_succ, List.getElem?_cons_zero]; exact rfl) (by kernel_rfl) (by kernel_rfl) (by kernel_rfl) (fun _ _ _ h => h) (Or.inl ⟨by rfl, ?_⟩) (by assumption) ?_
    rotate_left 1
    · intro wq hSq; (try dsimp only at hSq); go_simp; try with_reducible rfl
    try simp only [Act.put, List.setIfInBounds_toArray, List.set_cons_zero, List.set_cons_succ]
    refine wpAnyH_take (i := 7) (v := ?_) (by simp only [List.getElem?_toArray, List.getElem?_cons_succ, List.getElem?_cons_zero]; exact rfl) (by kernel_rfl) (by kernel_rfl) (by kernel_rfl) (fun _ _ _ h => h) (Or.inl ⟨by rfl, ?_⟩) (by assumption) ?_
    rotate_left 1
    · intro wq hSq; (try dsimp only at hSq); go_simp; try with_reducible rfl
    try simp only [Act.put, List.setIfInBounds_toArray, List.set_cons_zero, List.set_cons_succ]
    refine wpAnyH_take (i := 8) (v := ?_) (by simp only [List.getElem?_toArray, List.getElem?_cons_succ, List.getElem?_cons_zero]; exact rfl) (by kernel_rfl) (by kernel_rfl) (by kernel_rfl) (fun _ _ _ h => h) (Or.inl ⟨by rfl, ?_⟩) (by assumption) ?_
    rotate_left 1
    · intro wq hSq; (try dsimp only at hSq); go_simp; try with_reducible rfl
    try simp only [Act.put, List.setIfInBounds_toArray, List.set_cons_zero, List.set_cons_succ]
    refine wpAnyH_take (i := 9) (v := ?_) (by simp only [List.getElem?_toArray, List.getElem?_cons_succ, List.getElem?_cons_zero]; exact rfl) (by kernel_rfl) (by kernel_rfl) (by kernel_rfl) (fun _ _ _ h => h) (Or.inl ⟨by rfl, ?_⟩) (by assumption) ?_
    rotate_left 1
    · intro wq hSq; (try dsimp only at hSq); go_simp; try with_reducible rfl
    try simp only [Act.put, List.setIfInBounds_toArray, List.set_cons_zero, List.set_cons_succ]
    refine wpAnyH_take (i := 10) (v := ?_) (by simp only [List.getElem?_toArray, List.getElem?_cons_succ, List.getElem?_cons_zero]; exact rfl) (by kernel_rfl) (by kernel_rfl) (by kernel_rfl) (fun _ _ _ h => h) (Or.inl ⟨by rfl, ?_⟩) (by assumption) ?_
    rotate_left 1
    · intro wq hSq; (try dsimp only at hSq); go_simp; try with_reducible rfl
    try simp only [Act.put, List.setIfInBounds_toArray, List.set_cons_zero, List.set_cons_succ]
    refine wpAnyH_ready (rs := [5, 11]) (by kernel_rfl) (by simp) ?_
    refine AllReadyH.cons (by simp only [List.getElem?_toArray, List.getElem?_cons_succ, List.getElem?_cons_zero]; exact rfl) (fun K hK => ?_) ?_
    · go_simp
      refine hK.out _ _ ?_ (fun hHeld1 => ?_)
      · (try dsimp only); go_keep
      clear hK K hHeld0
      try simp only [Act.put, List.setIfInBounds_toArray, List.set_cons_zero, List.set_cons_succ]
      refine wpAnyH_ready (rs := [11]) (by kernel_rfl) (by simp) ?_
      refine AllReadyH.cons (by simp only [List.getElem?_toArray, List.getElem?_cons_succ, List.getElem?_cons_zero]; exact rfl) (fun K hK => ?_) ?_
      · go_simp
        refine hK.out _ _ ?_ (fun hHeld2 => ?_)
        · (try dsimp only); go_keep
        clear hK K hHeld1
        try simp only [Act.put, List.setIfInBounds_toArray, List.set_cons_zero, List.set_cons_succ]
        refine wpAnyH_take (i := 12) (v := ?_) (by simp only [List.getElem?_toArray, List.getElem?_cons_succ, List.getElem?_cons_zero]; exact rfl) (by kernel_rfl) (by kernel_rfl) (by kernel_rfl) (fun _ _ _ h => h) (Or.inl ⟨by rfl, ?_⟩) (by assumption) ?_
        rotate_left 1
        · intro wq hSq; (try dsimp only at hSq); go_simp; try with_reducible rfl
        try simp only [Act.put, List.setIfInBounds_toArray, List.set_cons_zero, List.set_cons_succ]
        refine wpAnyH_ready (rs := [13]) (by kernel_rfl) (by simp) ?_
        refine AllReadyH.cons (by simp only [List.getElem?_toArray, List.getElem?_cons_succ, List.getElem?_cons_zero]; exact rfl) (fun K hK => ?_) ?_
        · go_simp
          refine HP.mono ?_
          rintro e w' ⟨rfl, hw'⟩
          obtain rfl : W.drew = w' := hw'.symm
          try dsimp only
          refine hK.out _ _ ?_ (fun hHeld3 => ?_)
          · (try dsimp only); go_keep
          clear hK K hHeld2
          try simp only [Act.put, List.setIfInBounds_toArray, List.set_cons_zero, List.set_cons_succ]
          refine wpAnyH_take (i := 14) (v := ?_) (by simp only [List.getElem?_toArray, List.getElem?_cons_succ, List.getElem?_cons_zero]; exact rfl) (by kernel_rfl) (by kernel_rfl) (by kernel_rfl) (fun _ _ _ h => h) (Or.inl ⟨by rfl, ?_⟩) (by assumption) ?_
          rotate_left 1
          · intro wq hSq; (try dsimp only at hSq); go_simp; try with_reducible rfl
          try simp only [Act.put, List.setIfInBounds_toArray, List.set_cons_zero, List.set_cons_succ]
          refine wpAnyH_ready (rs := [15]) (by kernel_rfl) (by simp) ?_
          refine AllReadyH.cons (by simp only [List.getElem?_toArray, List.getElem?_cons_succ, List.getElem?_cons_zero]; exact rfl) (fun K hK => ?_) ?_
          · go_simp
            refine hK.out _ _ ?_ (fun hHeld4 => ?_)
            · (try dsimp only); go_keep
            clear hK K hHeld3
            try simp only [Act.put, List.setIfInBounds_toArray, List.set_cons_zero, List.set_cons_succ]
            refine wpAnyH_take (i := 16) (v := ?_) (by simp only [List.getElem?_toArray, List.getElem?_cons_succ, List.getElem?_cons_zero]; exact rfl) (by kernel_rfl) (by kernel_rfl) (by kernel_rfl) (fun _ _ _ h => h) (Or.inl ⟨by rfl, ?_⟩) (by assumption) ?_
            rotate_left 1
            · intro wq hSq; (try dsimp only at hSq); go_simp; try with_reducible rfl
            try simp only [Act.put, List.setIfInBounds_toArray, List.set_cons_zero, List.set_cons_succ]
            refine wpAnyH_take (i := 17) (v := ?_) (by simp only [List.getElem?_toArray, List.getElem?_cons_succ, List.getElem?_cons_zero]; exact rfl) (by kernel_rfl) (by kernel_rfl) (by kernel_rfl) (fun _ _ _ h => h) (Or.inl ⟨by rfl, ?_⟩) (by assumption) ?_
            rotate_left 1
            · intro wq hSq; (try dsimp only at hSq); go_simp; try with_reducible rfl
            try simp only [Act.put, List.setIfInBounds_toArray, List.set_cons_zero, List.set_cons_succ]
            refine wpAnyH_ready (rs := [18]) (by kernel_rfl) (by simp) ?_
            refine AllReadyH.cons (by simp only [List.getElem?_toArray, List.getElem?_cons_succ, List.getElem?_cons_zero]; exact rfl) (fun K hK => ?_) ?_
            · go_simp
              refine hK.out _ _ ?_ (fun hHeld5 => ?_)
              · (try dsimp only); go_keep
              clear hK K hHeld4
              try simp only [Act.put, List.setIfInBounds_toArray, List.set_cons_zero, List.set_cons_succ]
              refine wpAnyH_ready (rs := [19]) (by kernel_rfl) (by simp) ?_
              refine AllReadyH.cons (by simp only [List.getElem?_toArray, List.getElem?_cons_succ, List.getElem?_cons_zero]; exact rfl) (fun K hK => ?_) ?_
              · go_simp
                refine HQ.mono ?_
                rintro e w' ⟨⟨rfl, hT⟩, hKp⟩
                obtain ⟨k0, k1, k2, k3, k4, k5, k6⟩ := cell_seven (KK w' hKp)
                have HT : Hid _ := hT
                clear hT hKp
                try dsimp only
                refine hK.out _ _ ?_ (fun hHeld6 => ?_)
                · (try dsimp only); go_keep
                clear hK K hHeld5
                try simp only [Act.put, List.setIfInBounds_toArray, List.set_cons_zero, List.set_cons_succ]
                refine wpAnyH_take (i := 20) (v := ?_) (by simp only [List.getElem?_toArray, List.getElem?_cons_succ, List.getElem?_cons_zero]; exact rfl) (by kernel_rfl) (by kernel_rfl) (by kernel_rfl) (fun _ _ _ h => h) (Or.inl ⟨by rfl, ?_⟩) (by assumption) ?_
                rotate_left 1
                · intro wq hSq; (try dsimp only at hSq); go_simp; try with_reducible rfl
                try simp only [Act.put, List.setIfInBounds_toArray, List.set_cons_zero, List.set_cons_succ]
                refine wpAnyH_done (by kernel_rfl) ?_ _
                refine NoPanic.normal ?_
                go_wp2_with fail
                go_ret
                exact ⟨rfl, HT.out⟩
              exact AllReadyH.nil
            exact AllReadyH.nil
          exact AllReadyH.nil
        exact AllReadyH.nil
      exact AllReadyH.nil
    refine AllReadyH.cons (by simp only [List.getElem?_toArray, List.getElem?_cons_succ, List.getElem?_cons_zero]; exact rfl) (fun K hK => ?_) ?_
    · go_simp
      refine hK.out _ _ ?_ (fun hHeld7 => ?_)
      · (try dsimp only); go_keep
      clear hK K hHeld0
      try simp only [Act.put, List.setIfInBounds_toArray, List.set_cons_zero, List.set_cons_succ]
      refine wpAnyH_take (i := 12) (v := ?_) (by simp only [List.getElem?_toArray, List.getElem?_cons_succ, List.getElem?_cons_zero]; exact rfl) (by kernel_rfl) (by kernel_rfl) (by kernel_rfl) (fun _ _ _ h => h) (Or.inl ⟨by rfl, ?_⟩) (by assumption) ?_
      rotate_left 1
      · intro wq hSq; (try dsimp only at hSq); go_simp; try with_reducible rfl
      try simp only [Act.put, List.setIfInBounds_toArray, List.set_cons_zero, List.set_cons_succ]
      refine wpAnyH_ready (rs := [5, 13]) (by kernel_rfl) (by simp) ?_
      refine AllReadyH.cons (by simp only [List.getElem?_toArray, List.getElem?_cons_succ, List.getElem?_cons_zero]; exact rfl) (fun K hK => ?_) ?_
      · go_simp
        refine hK.out _ _ ?_ (fun hHeld8 => ?_)
        · (try dsimp only); go_keep
        clear hK K hHeld7
        try simp only [Act.put, List.setIfInBounds_toArray, List.set_cons_zero, List.set_cons_succ]
        refine wpAnyH_ready (rs := [13]) (by kernel_rfl) (by simp) ?_
        refine AllReadyH.cons (by simp only [List.getElem?_toArray, List.getElem?_cons_succ, List.getElem?_cons_zero]; exact rfl) (fun K hK => ?_) ?_
        · go_simp
          refine HP.mono ?_
          rintro e w' ⟨rfl, hw'⟩
          obtain rfl : W.drew = w' := hw'.symm
          try dsimp only
          refine hK.out _ _ ?_ (fun hHeld9 => ?_)
          · (try dsimp only); go_keep
          clear hK K hHeld8
          try simp only [Act.put, List.setIfInBounds_toArray, List.set_cons_zero, List.set_cons_succ]
          refine wpAnyH_take (i := 14) (v := ?_) (by simp only [List.getElem?_toArray, List.getElem?_cons_succ, List.getElem?_cons_zero]; exact rfl) (by kernel_rfl) (by kernel_rfl) (by kernel_rfl) (fun _ _ _ h => h) (Or.inl ⟨by rfl, ?_⟩) (by assumption) ?_
          rotate_left 1
          · intro wq hSq; (try dsimp only at hSq); go_simp; try with_reducible rfl
          try simp only [Act.put, List.setIfInBounds_toArray, List.set_cons_zero, List.set_cons_succ]
          refine wpAnyH_ready (rs := [15]) (by kernel_rfl) (by simp) ?_
          refine AllReadyH.cons (by simp only [List.getElem?_toArray, List.getElem?_cons_succ, List.getElem?_cons_zero]; exact rfl) (fun K hK => ?_) ?_
          · go_simp
            refine hK.out _ _ ?_ (fun hHeld10 => ?_)
            · (try dsimp only); go_keep
            clear hK K hHeld9
            try simp only [Act.put, List.setIfInBounds_toArray, List.set_cons_zero, List.set_cons_succ]
            refine wpAnyH_take (i := 16) (v := ?_) (by simp only [List.getElem?_toArray, List.getElem?_cons_succ, List.getElem?_cons_zero]; exact rfl) (by kernel_rfl) (by kernel_rfl) (by kernel_rfl) (fun _ _ _ h => h) (Or.inl ⟨by rfl, ?_⟩) (by assumption) ?_
            rotate_left 1
            · intro wq hSq; (try dsimp only at hSq); go_simp; try with_reducible rfl
            try simp only [Act.put, List.setIfInBounds_toArray, List.set_cons_zero, List.set_cons_succ]
            refine wpAnyH_take (i := 17) (v := ?_) (by simp only [List.getElem?_toArray, List.getElem?_cons_succ, List.getElem?_cons_zero]; exact rfl) (by kernel_rfl) (by kernel_rfl) (by kernel_rfl) (fun _ _ _ h => h) (Or.inl ⟨by rfl, ?_⟩) (by assumption) ?_
            rotate_left 1
            · intro wq hSq; (try dsimp only at hSq); go_simp; try with_reducible rfl
            try simp only [Act.put, List.setIfInBounds_toArray, List.set_cons_zero, List.set_cons_succ]
            refine wpAnyH_ready (rs := [18]) (by kernel_rfl) (by simp) ?_
            refine AllReadyH.cons (by simp only [List.getElem?_toArray, List.getElem?_cons_succ, List.getElem?_cons_zero]; exact rfl) (fun K hK => ?_) ?_
            · go_simp
              refine hK.out _ _ ?_ (fun hHeld11 => ?_)
              · (try dsimp only); go_keep
              clear hK K hHeld10
              try simp only [Act.put, List.setIfInBounds_toArray, List.set_cons_zero, List.set_cons_succ]
              refine wpAnyH_ready (rs := [19]) (by kernel_rfl) (by simp) ?_
              refine AllReadyH.cons (by simp only [List.getElem?_toArray, List.getElem?_cons_succ, List.getElem?_cons_zero]; exact rfl) (fun K hK => ?_) ?_
              · go_simp
                refine HQ.mono ?_
                rintro e w' ⟨⟨rfl, hT⟩, hKp⟩
                obtain ⟨k0, k1, k2, k3, k4, k5, k6⟩ := cell_seven (KK w' hKp)
                have HT : Hid _ := hT
                clear hT hKp
                try dsimp only
                refine hK.out _ _ ?_ (fun hHeld12 => ?_)
                · (try dsimp only); go_keep
                clear hK K hHeld11
                try simp only [Act.put, List.setIfInBounds_toArray, List.set_cons_zero, List.set_cons_succ]
                refine wpAnyH_take (i := 20) (v := ?_) (by simp only [List.getElem?_toArray, List.getElem?_cons_succ, List.getElem?_cons_zero]; exact rfl) (by kernel_rfl) (by kernel_rfl) (by kernel_rfl) (fun _ _ _ h => h) (Or.inl ⟨by rfl, ?_⟩) (by assumption) ?_
                rotate_left 1
                · intro wq hSq; (try dsimp only at hSq); go_simp; try with_reducible rfl
                try simp only [Act.put, List.setIfInBounds_toArray, List.set_cons_zero, List.set_cons_succ]
                refine wpAnyH_done (by kernel_rfl) ?_ _
                refine NoPanic.normal ?_
                go_wp2_with fail
                go_ret
                exact ⟨rfl, HT.out⟩
              exact AllReadyH.nil
            exact AllReadyH.nil
          exact AllReadyH.nil
        exact AllReadyH.nil
      refine AllReadyH.cons (by simp only [List.getElem?_toArray, List.getElem?_cons_succ, List.getElem?_cons_zero]; exact rfl) (fun K hK => ?_) ?_
      · go_simp
        refine HP.mono ?_
        rintro e w' ⟨rfl, hw'⟩
        obtain rfl : W.drew = w' := hw'.symm
        try dsimp only
        refine hK.out _ _ ?_ (fun hHeld13 => ?_)
        · (try dsimp only); go_keep
        clear hK K hHeld7
        try simp only [Act.put, List.setIfInBounds_toArray, List.set_cons_zero, List.set_cons_succ]
        refine wpAnyH_ready (rs := [5]) (by kernel_rfl) (by simp) ?_
        refine AllReadyH.cons (by simp only [List.getElem?_toArray, List.getElem?_cons_succ, List.getElem?_cons_zero]; exact rfl) (fun K hK => ?_) ?_
        · go_simp
          refine hK.out _ _ ?_ (fun hHeld14 => ?_)
          · (try dsimp only); go_keep
          clear hK K hHeld13
          try simp only [Act.put, List.setIfInBounds_toArray, List.set_cons_zero, List.set_cons_succ]
          refine wpAnyH_take (i := 14) (v := ?_) (by simp only [List.getElem?_toArray, List.getElem?_cons_succ, List.getElem?_cons_zero]; exact rfl) (by kernel_rfl) (by kernel_rfl) (by kernel_rfl) (fun _ _ _ h => h) (Or.inl ⟨by rfl, ?_⟩) (by assumption) ?_
          rotate_left 1
          · intro wq hSq; (try dsimp only at hSq); go_simp; try with_reducible rfl
          try simp only [Act.put, List.setIfInBounds_toArray, List.set_cons_zero, List.set_cons_succ]
          refine wpAnyH_ready (rs := [15]) (by kernel_rfl) (by simp) ?_
          refine AllReadyH.cons (by simp only [List.getElem?_toArray, List.getElem?_cons_succ, List.getElem?_cons_zero]; exact rfl) (fun K hK => ?_) ?_
          · go_simp
            refine hK.out _ _ ?_ (fun hHeld15 => ?_)
            · (try dsimp only); go_keep
            clear hK K hHeld14
            try simp only [Act.put, List.setIfInBounds_toArray, List.set_cons_zero, List.set_cons_succ]
            refine wpAnyH_take (i := 16) (v := ?_) (by simp only [List.getElem?_toArray, List.getElem?_cons_succ, List.getElem?_cons_zero]; exact rfl) (by kernel_rfl) (by kernel_rfl) (by kernel_rfl) (fun _ _ _ h => h) (Or.inl ⟨by rfl, ?_⟩) (by assumption) ?_
            rotate_left 1
            · intro wq hSq; (try dsimp only at hSq); go_simp; try with_reducible rfl
            try simp only [Act.put, List.setIfInBounds_toArray, List.set_cons_zero, List.set_cons_succ]
            refine wpAnyH_take (i := 17) (v := ?_) (by simp only [List.getElem?_toArray, List.getElem?_cons_succ, List.getElem?_cons_zero]; exact rfl) (by kernel_rfl) (by kernel_rfl) (by kernel_rfl) (fun _ _ _ h => h) (Or.inl ⟨by rfl, ?_⟩) (by assumption) ?_
            rotate_left 1
            · intro wq hSq; (try dsimp only at hSq); go_simp; try with_reducible rfl
            try simp only [Act.put, List.setIfInBounds_toArray, List.set_cons_zero, List.set_cons_succ]
            refine wpAnyH_ready (rs := [18]) (by kernel_rfl) (by simp) ?_
            refine AllReadyH.cons (by simp only [List.getElem?_toArray, List.getElem?_cons_succ, List.getElem?_cons_zero]; exact rfl) (fun K hK => ?_) ?_
            · go_simp
              refine hK.out _ _ ?_ (fun hHeld16 => ?_)
              · (try dsimp only); go_keep
              clear hK K hHeld15
              try simp only [Act.put, List.setIfInBounds_toArray, List.set_cons_zero, List.set_cons_succ]
              refine wpAnyH_ready (rs := [19]) (by kernel_rfl) (by simp) ?_
              refine AllReadyH.cons (by simp only [List.getElem?_toArray, List.getElem?_cons_succ, List.getElem?_cons_zero]; exact rfl) (fun K hK => ?_) ?_
              · go_simp
                refine HQ.mono ?_
                rintro e w' ⟨⟨rfl, hT⟩, hKp⟩
                obtain ⟨k0, k1, k2, k3, k4, k5, k6⟩ := cell_seven (KK w' hKp)
                have HT : Hid _ := hT
                clear hT hKp
                try dsimp only
                refine hK.out _ _ ?_ (fun hHeld17 => ?_)
                · (try dsimp only); go_keep
                clear hK K hHeld16
                try simp only [Act.put, List.setIfInBounds_toArray, List.set_cons_zero, List.set_cons_succ]
                refine wpAnyH_take (i := 20) (v := ?_) (by simp only [List.getElem?_toArray, List.getElem?_cons_succ, List.getElem?_cons_zero]; exact rfl) (by kernel_rfl) (by kernel_rfl) (by kernel_rfl) (fun _ _ _ h => h) (Or.inl ⟨by rfl, ?_⟩) (by assumption) ?_
                rotate_left 1
                · intro wq hSq; (try dsimp only at hSq); go_simp; try with_reducible rfl
                try simp only [Act.put, List.setIfInBounds_toArray, List.set_cons_zero, List.set_cons_succ]
                refine wpAnyH_done (by kernel_rfl) ?_ _
                refine NoPanic.normal ?_
                go_wp2_with fail
                go_ret
                exact ⟨rfl, HT.out⟩
              exact AllReadyH.nil
            exact AllReadyH.nil
          exact AllReadyH.nil
        exact AllReadyH.nil
      exact AllReadyH.nil
    exact AllReadyH.nil

end Go.Proofs.YtpngikmcjkjdaaaGreatDoor

namespace Go.Proofs.YtpngikmcjkjdaaaGreatDoor
open Go.RowKit
set_option linter.unusedVariables false

set_option maxRecDepth 20000 in
set_option maxHeartbeats 2000000 in
theorem joins_walk (ao : Option Addr) (len cap : Nat) (r : Nat → OpRec) (w : World) (hlen : len ≤ 4398046511104) (h : ∀ i, i < len → ∃ b o, ao = some ⟨b, o, none⟩ ∧ (r i).At w b (o + i * 7)) :
    Calls Tryz.prog 5 #[.slice ao len cap] w fun e w' => e = .returned (.bool true) ∧ Below w.heap.size w w' := by
  have hO := ops_of hlen h
  obtain ⟨W, hW⟩ : ∃ W, W = w.alloc (.cells #[.int .i64 5, .int .i64 6, .int .i64 7] 3) := ⟨_, rfl⟩
  have BW : Below w.heap.size w W := by rw [hW]; exact (Below.refl _ _).alloc (Nat.le_refl _) _
  have hWs : w.heap.size < W.heap.size := by rw [hW]; simp
  have b0 : W.heap[w.heap.size]? = some (.cells #[.int .i64 5, .int .i64 6, .int .i64 7] 3 (0, 0)) := by rw [hW]; exact heap_at_new rfl
  obtain ⟨k0, k1, k2, _⟩ := cell_three b0
  have hO1 := hO.below BW
  have HC := plays_ok ao len cap _ _ _ _ _ _ _ _ _ _ W hO1 w.heap.size 3 3 (fun j => if j = 0 then 5 else if j = 1 then 6 else 7) (fun j hj => by
      rcases (show j = 0 ∨ j = 1 ∨ j = 2 by omega) with rfl | rfl | rfl
      · exact k0
      · exact k1
      · exact k2) (by omega) (fun i hi hin w' vts hs hB hP hl => by
      have hR := hO1.below hB
      rw [inB_iff] at hin
      have hk : (r i).kd = 1 ∨ (r i).kd = 2 ∨ (r i).kd = 5 ∨ (r i).kd = 6 ∨ (r i).kd = 7 := by
        rcases hin with h | h | ⟨j, hj, h⟩
        · exact .inl h
        · exact .inr (.inl h)
        · rcases (show j = 0 ∨ j = 1 ∨ j = 2 by omega) with rfl | rfl | rfl
          · exact .inr (.inr (.inl h))
          · exact .inr (.inr (.inr (.inl h)))
          · exact .inr (.inr (.inr (.inr h)))
      rcases hk with hk | hk | hk | hk | hk
      · rw [hk]; exact step_table W w' W.heap.size vts hs hP _ _ _ _ _ _ _ _ _ (hR.lst i hi) (by omega)
      · rw [hk]; exact step_write W w' W.heap.size vts hs hP _ _ _ _ _ _ _ _ (by omega) (hR.ra i hi) (hR.rb i hi) (hR.rc i hi)
      · rw [hk]; exact step_ask5 W w' W.heap.size vts hs hP _ _ _ _ _ _ _ _ (by omega) (hR.ra i hi)
      · rw [hk]; exact step_ask6 W w' W.heap.size vts hs hP _ _ _ _ _ _ _ _ (by omega) (hR.ra i hi)
      · rw [hk]; exact step_ask7 W w' W.heap.size vts hs hP _ _ _ _ _ _ _ _ (by omega) (hR.ra i hi) (hR.rb i hi))
  clear hO hO1 h b0 k0 k1 k2
  go_enter Tryz.func5, Tryz.ntmps5
  go_wp2_with fail
  rw [← hW]
  clear hW
  refine HC.mono ?_
  rintro e w1 ⟨rfl, hB1⟩
  clear HC
  go_wp2_with fail
  go_ret
  exact ⟨rfl, BW.trans (hB1.mono (by omega))⟩
end Go.Proofs.YtpngikmcjkjdaaaGreatDoor
