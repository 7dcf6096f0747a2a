import Derived.Test.YtpngikmcjkjdaaaGreatDoorBookS
import Derived.Test.YtpngikmcjkjdaaaGreatDoorPlays
namespace Go.Proofs.YtpngikmcjkjdaaaGreatDoor
open Go.RowKit
set_option linter.unusedVariables false
set_option linter.unusedSimpArgs false

/-- The caller's world, with at most N of each. -/
def WbS (Wo w : World) (bw N : Nat) : Prop := ∃ vts vbs vtx hs ps xs lab, WbAt Wo w bw vts vbs vtx hs ps xs lab ∧ hs.length ≤ N ∧ ps.length ≤ N ∧ xs.length ≤ N
def StepPostB (Wo : World) (bw N : Nat) (e : Ending) (w' : World) : Prop := e = .returned (.bool true) ∧ WbS Wo w' bw (N + 1)
theorem stepB_of {Wo w : World} {bw N : Nat} {vts vbs vtx : Value} {hs : List Hd} {ps : List Bk} {xs : List Value} {lab : Nat → Nat} (h : WbAt Wo w bw vts vbs vtx hs ps xs lab) (h1 : hs.length ≤ N) (h2 : ps.length ≤ N) (h3 : xs.length ≤ N) {e : Ending} {w' : World} (hp : StepPost (frOf Wo w vbs vtx lab) bw hs.length e w') : StepPostB Wo bw N e w' := by
  obtain ⟨rfl, vts', hs', hw, hl⟩ := hp
  exact ⟨rfl, vts', vbs, vtx, hs', ps, xs, lab, h.tables hw, by omega, by omega, by omega⟩
theorem bptrs_len {ps ps' : List Bk} (h : bptrs ps' = bptrs ps) : ps'.length = ps.length := by
  have := congrArg List.length h
  simpa [bptrs] using this
theorem Tryz.infoPr : (Tryz.prog.info? 45).map (fun i => (i.zero, i.size, i.bytes)) = some (some (.pointer none), 1, 8) := by kernel_rfl

set_option maxRecDepth 20000 in
set_option maxHeartbeats 4000000 in
theorem stepB_new (Wo w : World) (bw N : Nat) (vts vbs vtx : Value) (hs : List Hd) (ps : List Bk) (xs : List Value) (lab : Nat → Nat) (h : WbAt Wo w bw vts vbs vtx hs ps xs lab) (h1 : hs.length ≤ N) (h2 : ps.length ≤ N) (h3 : xs.length ≤ N) (hN : N ≤ 4398046511104) (a b c d : Int) (s : ByteArray) (lo : Option Addr) (ll lc : Nat) :
    Calls Tryz.prog 12 #[.pointer (some ⟨bw, 0, none⟩), .agg #[.int .i64 10, .int .i64 a, .int .i64 b, .int .i64 c, .int .i64 d, .string s, .slice lo ll lc]] w (StepPostB Wo bw N) := by
  obtain ⟨i0, hi0, hz0, hz01, hz02⟩ := info_parts Tryz.infoPr
  obtain ⟨W, hW⟩ : ∃ W, W = w.alloc (.cells #[.int .i64 10, .int .i64 a, .int .i64 b, .int .i64 c, .int .i64 d, .string s, .slice lo ll lc] 33) := ⟨_, rfl⟩
  have BW : Below w.heap.size w W := by rw [hW]; exact (Below.refl _ _).alloc (Nat.le_refl _) _
  have hWs : w.heap.size < W.heap.size := by rw [hW]; simp
  have b0 : W.heap[w.heap.size]? = some (.cells #[.int .i64 10, .int .i64 a, .int .i64 b, .int .i64 c, .int .i64 d, .string s, .slice lo ll lc] 33 (0, 0)) := by rw [hW]; exact heap_at_new rfl
  obtain ⟨x0, x1, x2, x3, x4, x5, x6⟩ := cell_seven b0
  have HX := tnew_ok W (fun _ => ByteArray.empty)
  have HY : ∀ w1, _ := fun w1 => rnew_ok w1 (fun _ => ByteArray.empty)
  have hbs := heap_lt h.wd.blk
  have HBK : ∀ w1 w2 bx br, Below W.heap.size W w1 → W.heap.size ≤ bx → BxAt w1 bx (fun _ => ByteArray.empty) 0 cur0 → Below w1.heap.size w1 w2 → w1.heap.size ≤ br → ByAt w2 br (.slice none 0 0) (fun _ => ByteArray.empty) 0 cur0 →
      ((w2.alloc (.cells #[.pointer (some ⟨bx, 0, none⟩), .pointer (some ⟨br, 0, none⟩)] 51)).alloc (.cells #[.pointer (some ⟨w2.heap.size, 0, none⟩)] 45)).ownsRow (bw + 1) 45 1 vbs ps.length (bptrs ps) ∧ bw + 1 ≤ w2.heap.size ∧
      ((w2.alloc (.cells #[.pointer (some ⟨bx, 0, none⟩), .pointer (some ⟨br, 0, none⟩)] 51)).alloc (.cells #[.pointer (some ⟨w2.heap.size, 0, none⟩)] 45)).cell? ⟨bw, 1, none⟩ = some vbs ∧ (w2.alloc (.cells #[.pointer (some ⟨bx, 0, none⟩), .pointer (some ⟨br, 0, none⟩)] 51)).cell? ⟨bw, 1, none⟩ = some vbs ∧
      ∀ g cap w3, w3.ownsRow (bw + 1) 45 1 (.slice (some ⟨g, 0, none⟩) (ps.length + 1) cap) (ps.length + 1) (bptrs ps ++ [.pointer (some ⟨w2.heap.size, 0, none⟩)]) → ((w2.alloc (.cells #[.pointer (some ⟨bx, 0, none⟩), .pointer (some ⟨br, 0, none⟩)] 51)).alloc (.cells #[.pointer (some ⟨w2.heap.size, 0, none⟩)] 45)).grownBy w3 vbs.ownBlock → (vbs.ownBlock = some g ∨ g = ((w2.alloc (.cells #[.pointer (some ⟨bx, 0, none⟩), .pointer (some ⟨br, 0, none⟩)] 51)).alloc (.cells #[.pointer (some ⟨w2.heap.size, 0, none⟩)] 45)).heap.size) →
        w3.heap[bw]? = some (.cells #[vts, vbs, vtx] 31 (0, 0)) ∧ (w3.setCell ⟨bw, 1, none⟩ (.slice (some ⟨g, 0, none⟩) (ps.length + 1) cap)).cell? ⟨w2.heap.size, 0, none⟩ = some (.pointer (some ⟨bx, 0, none⟩)) ∧ Hid (StepPostB Wo bw N (.returned (.bool true)) (w3.setCell ⟨bw, 1, none⟩ (.slice (some ⟨g, 0, none⟩) (ps.length + 1) cap))) := by
    intro w1 w2 bx br hb1 hbx hx hb2 hbr hy
    have s0 := BW.size
    have s1 := hb1.size
    have s2 := hb2.size
    have hB2 : Below w.heap.size w w2 := (BW.trans (hb1.mono s0)).trans (hb2.mono (by omega))
    have hB3 : Below w.heap.size w (w2.alloc (.cells #[.pointer (some ⟨bx, 0, none⟩), .pointer (some ⟨br, 0, none⟩)] 51)) := hB2.alloc (by omega) _
    have hB4 : Below w.heap.size w ((w2.alloc (.cells #[.pointer (some ⟨bx, 0, none⟩), .pointer (some ⟨br, 0, none⟩)] 51)).alloc (.cells #[.pointer (some ⟨w2.heap.size, 0, none⟩)] 45)) := hB3.alloc (by simp; omega) _
    refine ⟨(h.below hB4).ownB, by omega, (cell_three (h.below hB4).wd.blk).2.1, (cell_three (h.below hB3).wd.blk).2.1, fun g cap w3 ho hgr hf => ?_⟩
    have hpn : (w2.alloc (.cells #[.pointer (some ⟨bx, 0, none⟩), .pointer (some ⟨br, 0, none⟩)] 51)).heap[w2.heap.size]? = some (.cells #[.pointer (some ⟨bx, 0, none⟩), .pointer (some ⟨br, 0, none⟩)] 51 (0, 0)) := heap_at_new rfl
    have hbl2 : Below w2.heap.size w2 (w2.alloc (.cells #[.pointer (some ⟨bx, 0, none⟩), .pointer (some ⟨br, 0, none⟩)] 51)) := (Below.refl _ _).alloc (Nat.le_refl _) _
    have hd : BkAt (w2.alloc (.cells #[.pointer (some ⟨bx, 0, none⟩), .pointer (some ⟨br, 0, none⟩)] 51)) { bp := w2.heap.size, bx := bx, br := br, t := fun _ => ByteArray.empty, n := 0, ry := .slice none 0 0, cx := cur0, cy := cur0, more := fun _ => False, cur := fun _ => True } :=
      ⟨hpn, (hx.below hb2).below hbl2, hy.below hbl2, fun i j _ hj => absurd hj (Nat.not_lt_zero _), Nat.zero_le _, fun i hi => absurd hi (Nat.not_lt_zero _), trivial, fun _ _ _ _ => trivial, fun k hk => hk.elim⟩
    obtain ⟨k1, lab', k2⟩ := h.newBook hB3 hd (fun k hk => by
      rcases hk with e | e | e | e | e
      · have : k = w2.heap.size := e
        omega
      · have : k = bx := e
        omega
      · have : k = br := e
        omega
      · simp [Value.ownBlock] at e
      · exact e.elim) ho hgr hf
    refine ⟨k1, ?_, rfl, _, _, _, _, _, _, lab', k2, by omega, by simp; omega, by omega⟩
    have e1 : w3.heap[w2.heap.size]? = some (.cells #[.pointer (some ⟨bx, 0, none⟩), .pointer (some ⟨br, 0, none⟩)] 51 (0, 0)) := by
      rw [hgr.block _ (by simp; omega) (fun e => by have := ((h.below hB2).ownB.lt _ e.symm).2; omega), Below.heap_alloc _ _ _ (by simp)]
      exact hpn
    have e2 : (w3.setCell ⟨bw, 1, none⟩ (.slice (some ⟨g, 0, none⟩) (ps.length + 1) cap)).heap[w2.heap.size]? = some (.cells #[.pointer (some ⟨bx, 0, none⟩), .pointer (some ⟨br, 0, none⟩)] 51 (0, 0)) := heap_set_other e1 (by simp; omega)
    exact (cell_two e2).1
  obtain ⟨ab, cb, hvb, _⟩ := ownsRow_shape h.ownB
  rw [hvb] at HBK
  clear h BW b0 hvb
  go_enter Tryz.func12, Tryz.ntmps12
  go_upto_region 1 with fail
  rw [← hW]
  clear hW
  go_wp2_with (first
    | (go_at_call 19; refine HX.mono ?_; rintro e w1 ⟨hb1, bx, rfl, hbx, hx⟩; have HB1 := fun w2 br => HBK w1 w2 bx br hb1 hbx hx; clear HBK hb1 hx)
    | (go_at_call 20; refine (HY w1).mono ?_; rintro e w2 ⟨hb2, br, rfl, hbr, hy⟩; obtain ⟨hna, hsb, cb1, cb2, HNB⟩ := HB1 w2 br hb2 hbr hy; clear HB1 hb2 hy)
    | (at_builtin; refine wpList_append_fresh _ rfl _ _ 28 rfl (bw + 1) 45 i0 (.pointer none) 1 8 Tryz.underlying28 hi0 hz0 hz01 hz02 rfl (by decide) _ ps.length (bptrs ps) rfl hna ⟨w2.heap.size + 1, 0, none⟩ 1 1 [.pointer (some ⟨w2.heap.size, 0, none⟩)] rfl rfl (by have := cell_one_new (w2.alloc (.cells #[.pointer (some ⟨bx, 0, none⟩), .pointer (some ⟨br, 0, none⟩)] 51)) (.pointer (some ⟨w2.heap.size, 0, none⟩)) 45; simpa using this) (by intro u hu; simp at hu; subst hu; rfl) (by decide) (by unfold maxLen; omega) (by omega) (by simp; omega) ?_; intro g cap w3 hown hgr hfr; obtain ⟨f0, z0, F⟩ := HNB g cap w3 hown hgr hfr; obtain ⟨f1, f2, f3, f4⟩ := cell_three f0; obtain ⟨f5, f6⟩ := frozen_three f0; clear HNB hown hgr hfr f0))
  go_ret
  exact F.out
end Go.Proofs.YtpngikmcjkjdaaaGreatDoor

namespace Go.Proofs.YtpngikmcjkjdaaaGreatDoor
open Go.RowKit
set_option linter.unusedVariables false
set_option linter.unusedSimpArgs false

/-- What the walk of step must know of the world behind a step on a book. -/
theorem booked_cells {Wo w w' : World} {bw : Nat} {vts vbs vtx : Value} {hs : List Hd} {ps : List Bk} {xs : List Value} {lab : Nat → Nat} (h : WbAt Wo w bw vts vbs vtx hs ps xs lab) {e : Ending} {n : Nat} (hp : BookedPost Wo bw vts vbs hs ps n lab w e w') :
    w'.cell? ⟨bw, 1, none⟩ = some vbs ∧ (∀ k o, lab k = 0 → k ≠ bw → k < w.heap.size → w'.cell? ⟨k, o, none⟩ = w.cell? ⟨k, o, none⟩) ∧ (∀ g i, vbs.ownBlock = some g → i < ps.length → w'.cell? ⟨g, i, none⟩ = (bptrs ps)[i]?) := by
  obtain ⟨_, hT, vtx', ps', xs', lab', hw, hb, _⟩ := hp
  refine ⟨(cell_three hw.wd.blk).2.1, fun k o hl hne hk => World.cell?_of_block (a := ⟨k, o, none⟩) (hT.block k hk (by rintro (e | e); exact hne e; exact e hl)), fun g i hg hi => ?_⟩
  have hlen := bptrs_len hb
  obtain ⟨a, cap, hv, hs⟩ := ownsRow_shape hw.ownB
  obtain ⟨g', e, hc⟩ := hs (by omega)
  rw [hv, e] at hg
  simp only [Value.ownBlock, Option.some.injEq] at hg
  subst hg
  rw [← hb]
  exact hc i (by omega)

set_option maxRecDepth 20000 in
set_option maxHeartbeats 4000000 in
theorem stepB_add (Wo w : World) (bw N : Nat) (vts vbs vtx : Value) (hs : List Hd) (ps : List Bk) (xs : List Value) (lab : Nat → Nat) (h : WbAt Wo w bw vts vbs vtx hs ps xs lab) (h1 : hs.length ≤ N) (h2 : ps.length ≤ N) (h3 : xs.length ≤ N) (hN : N ≤ 4398046511104) (a b c d : Int) (s : ByteArray) (lo : Option Addr) (ll lc : Nat) (ha : -9223372036854775808 ≤ a ∧ a ≤ 9223372036854775807) (hss : s.size ≤ maxLen) :
    Calls Tryz.prog 12 #[.pointer (some ⟨bw, 0, none⟩), .agg #[.int .i64 11, .int .i64 a, .int .i64 b, .int .i64 c, .int .i64 d, .string s, .slice lo ll lc]] w (StepPostB Wo bw N) := by
  obtain ⟨W, hW⟩ : ∃ W, W = w.alloc (.cells #[.int .i64 11, .int .i64 a, .int .i64 b, .int .i64 c, .int .i64 d, .string s, .slice lo ll lc] 33) := ⟨_, rfl⟩
  have BW : Below w.heap.size w W := by rw [hW]; exact (Below.refl _ _).alloc (Nat.le_refl _) _
  have hWs : w.heap.size < W.heap.size := by rw [hW]; simp
  have b0 : W.heap[w.heap.size]? = some (.cells #[.int .i64 11, .int .i64 a, .int .i64 b, .int .i64 c, .int .i64 d, .string s, .slice lo ll lc] 33 (0, 0)) := by rw [hW]; exact heap_at_new rfl
  obtain ⟨x0, x1, x2, x3, x4, x5, x6⟩ := cell_seven b0
  have hW1 := h.below BW
  obtain ⟨y0, y1, y2, y3⟩ := cell_three hW1.wd.blk
  replace y1 : W.cell? ⟨bw, 1, none⟩ = some vbs := y1
  obtain ⟨al, cl, rfl, hal⟩ := ownsRow_shape hW1.ownB
  go_enter Tryz.func12, Tryz.ntmps12
  go_upto_region 1 with fail
  rw [← hW]
  clear hW
  by_cases h0 : ps.length = 0
  · rw [h0] at y1
    have HF : Hid (WbAt Wo W bw vts (.slice al ps.length cl) vtx hs ps xs lab) := hW1
    go_wp2_with fail
    go_ret
    exact ⟨rfl, _, _, _, _, _, _, _, HF.out, by omega, by omega, by omega⟩
  · obtain ⟨gl, rfl, hcl⟩ := hal (by omega)
    obtain ⟨pi, HPI⟩ : ∃ x, Hid (lpickN a ps.length = x) := ⟨_, rfl⟩
    have hpi : pi < ps.length := by rw [← HPI.out]; exact lpickN_lt _ _ (by omega)
    have HP := lpick_ok a ps.length W.drew (by omega) (by omega) ha.1 ha.2
    rw [Int.toNat_natCast, HPI.out] at HP
    have z0 := (hcl pi (by omega)).trans (bptrs_at ps pi hpi)
    have hWd : WbAt Wo W.drew bw vts (.slice (some ⟨gl, 0, none⟩) ps.length cl) vtx hs ps xs lab := hW1.below ((Below.refl _ _).drew)
    have HQ := booked_add Wo W.drew bw vts (.slice (some ⟨gl, 0, none⟩) ps.length cl) vtx hs ps xs lab hWd pi hpi a b c d s lo ll lc hss
    have hl0 : lab w.heap.size = 0 := by
      by_cases e : lab w.heap.size = 0
      · exact e
      · have := h.lt _ e; omega
    have hbw := heap_lt h.wd.blk
    have KO : ∀ w', Hid (BookedPost Wo bw vts (.slice (some ⟨gl, 0, none⟩) ps.length cl) hs ps xs.length lab W.drew (.returned (.bool true)) w') → ∀ o, w'.cell? ⟨w.heap.size, o, none⟩ = W.cell? ⟨w.heap.size, o, none⟩ := fun w' hB o => (booked_cells hWd hB.out).2.1 w.heap.size o hl0 (by omega) hWs
    have KB : ∀ w', Hid (BookedPost Wo bw vts (.slice (some ⟨gl, 0, none⟩) ps.length cl) hs ps xs.length lab W.drew (.returned (.bool true)) w') → w'.cell? ⟨bw, 1, none⟩ = some (.slice (some ⟨gl, 0, none⟩) ps.length cl) ∧ w'.cell? ⟨gl, pi, none⟩ = some (.pointer (some ⟨ps[pi].bp, 0, none⟩)) := fun w' hB => ⟨(booked_cells hWd hB.out).1, ((booked_cells hWd hB.out).2.2 gl pi rfl hpi).trans (bptrs_at ps pi hpi)⟩
    have KF : ∀ w', Hid (BookedPost Wo bw vts (.slice (some ⟨gl, 0, none⟩) ps.length cl) hs ps xs.length lab W.drew (.returned (.bool true)) w') → Hid (StepPostB Wo bw N (.returned (.bool true)) w') := fun w' hB => by
      obtain ⟨_, _, vtx', ps', xs', lab', hw, hb, hx⟩ := hB.out
      exact ⟨rfl, _, _, _, _, _, _, _, hw, by omega, by have := bptrs_len hb; omega, by omega⟩
    obtain ⟨dd, HDD⟩ : ∃ x, Hid (ps[pi] = x) := ⟨ps[pi], by unfold Hid; rfl⟩
    rw [HDD.out] at z0 HQ KB
    have hne : ((ps.length : Int) == 0) = false := by rw [beq_eq_false_iff_ne]; omega
    have hgt2 : (pi : Int) < (ps.length : Int) := by omega
    clear h hW1 hWd hcl hal hl0 BW b0
    go_wp2_with fail
    go_region_held3 (fun w' => w'.cell? ⟨bw, 1, none⟩ = some (.slice (some ⟨gl, 0, none⟩) ps.length cl) ∧ w'.cell? ⟨w.heap.size, 0, none⟩ = some (.int .i64 11) ∧ w'.cell? ⟨w.heap.size, 1, none⟩ = some (.int .i64 a) ∧ w'.cell? ⟨w.heap.size, 2, none⟩ = some (.int .i64 b) ∧ w'.cell? ⟨w.heap.size, 3, none⟩ = some (.int .i64 c) ∧ w'.cell? ⟨w.heap.size, 4, none⟩ = some (.int .i64 d) ∧ w'.cell? ⟨w.heap.size, 5, none⟩ = some (.string s) ∧ w'.cell? ⟨w.heap.size, 6, none⟩ = some (.slice lo ll lc) ∧ w'.cell? ⟨gl, pi, none⟩ = some (.pointer (some ⟨dd.bp, 0, none⟩))) (go_keep)
      ((first
        | (go_at_call 16; refine HP.mono ?_; rintro e w' ⟨rfl, hw'⟩; obtain rfl : W.drew = w' := hw'.symm)
        | (go_at_call 22; refine HQ.mono ?_; rintro e w' hP; obtain rfl : e = .returned (.bool true) := hP.1; have hB : Hid (BookedPost Wo bw vts (.slice (some ⟨gl, 0, none⟩) ps.length cl) hs ps xs.length lab W.drew (.returned (.bool true)) w') := hP; have k0 := (KO w' hB 0).trans x0; have k1 := (KO w' hB 1).trans x1; have k2 := (KO w' hB 2).trans x2; have k3 := (KO w' hB 3).trans x3; have k4 := (KO w' hB 4).trans x4; have k5 := (KO w' hB 5).trans x5; have k6 := (KO w' hB 6).trans x6; obtain ⟨k7, k8⟩ := KB w' hB; have HFIN := KF w' hB; clear hP hB)))
    all_goals go_wp2_with fail
    all_goals go_ret
    all_goals exact HFIN.out

set_option maxRecDepth 20000 in
set_option maxHeartbeats 4000000 in
theorem stepB_drop (Wo w : World) (bw N : Nat) (vts vbs vtx : Value) (hs : List Hd) (ps : List Bk) (xs : List Value) (lab : Nat → Nat) (h : WbAt Wo w bw vts vbs vtx hs ps xs lab) (h1 : hs.length ≤ N) (h2 : ps.length ≤ N) (h3 : xs.length ≤ N) (hN : N ≤ 4398046511104) (a b c d : Int) (s : ByteArray) (lo : Option Addr) (ll lc : Nat) (ha : -9223372036854775808 ≤ a ∧ a ≤ 9223372036854775807) (hss : s.size ≤ maxLen) :
    Calls Tryz.prog 12 #[.pointer (some ⟨bw, 0, none⟩), .agg #[.int .i64 12, .int .i64 a, .int .i64 b, .int .i64 c, .int .i64 d, .string s, .slice lo ll lc]] w (StepPostB Wo bw N) := by
  obtain ⟨W, hW⟩ : ∃ W, W = w.alloc (.cells #[.int .i64 12, .int .i64 a, .int .i64 b, .int .i64 c, .int .i64 d, .string s, .slice lo ll lc] 33) := ⟨_, rfl⟩
  have BW : Below w.heap.size w W := by rw [hW]; exact (Below.refl _ _).alloc (Nat.le_refl _) _
  have hWs : w.heap.size < W.heap.size := by rw [hW]; simp
  have b0 : W.heap[w.heap.size]? = some (.cells #[.int .i64 12, .int .i64 a, .int .i64 b, .int .i64 c, .int .i64 d, .string s, .slice lo ll lc] 33 (0, 0)) := by rw [hW]; exact heap_at_new rfl
  obtain ⟨x0, x1, x2, x3, x4, x5, x6⟩ := cell_seven b0
  have hW1 := h.below BW
  obtain ⟨y0, y1, y2, y3⟩ := cell_three hW1.wd.blk
  replace y1 : W.cell? ⟨bw, 1, none⟩ = some vbs := y1
  obtain ⟨al, cl, rfl, hal⟩ := ownsRow_shape hW1.ownB
  go_enter Tryz.func12, Tryz.ntmps12
  go_upto_region 1 with fail
  rw [← hW]
  clear hW
  by_cases h0 : ps.length = 0
  · rw [h0] at y1
    have HF : Hid (WbAt Wo W bw vts (.slice al ps.length cl) vtx hs ps xs lab) := hW1
    go_wp2_with fail
    go_ret
    exact ⟨rfl, _, _, _, _, _, _, _, HF.out, by omega, by omega, by omega⟩
  · obtain ⟨gl, rfl, hcl⟩ := hal (by omega)
    obtain ⟨pi, HPI⟩ : ∃ x, Hid (lpickN a ps.length = x) := ⟨_, rfl⟩
    have hpi : pi < ps.length := by rw [← HPI.out]; exact lpickN_lt _ _ (by omega)
    have HP := lpick_ok a ps.length W.drew (by omega) (by omega) ha.1 ha.2
    rw [Int.toNat_natCast, HPI.out] at HP
    have z0 := (hcl pi (by omega)).trans (bptrs_at ps pi hpi)
    have hWd : WbAt Wo W.drew bw vts (.slice (some ⟨gl, 0, none⟩) ps.length cl) vtx hs ps xs lab := hW1.below ((Below.refl _ _).drew)
    have HQ := booked_drop Wo W.drew bw vts (.slice (some ⟨gl, 0, none⟩) ps.length cl) vtx hs ps xs lab hWd pi hpi a b c d s lo ll lc hss
    have hl0 : lab w.heap.size = 0 := by
      by_cases e : lab w.heap.size = 0
      · exact e
      · have := h.lt _ e; omega
    have hbw := heap_lt h.wd.blk
    have KO : ∀ w', Hid (BookedPost Wo bw vts (.slice (some ⟨gl, 0, none⟩) ps.length cl) hs ps xs.length lab W.drew (.returned (.bool true)) w') → ∀ o, w'.cell? ⟨w.heap.size, o, none⟩ = W.cell? ⟨w.heap.size, o, none⟩ := fun w' hB o => (booked_cells hWd hB.out).2.1 w.heap.size o hl0 (by omega) hWs
    have KB : ∀ w', Hid (BookedPost Wo bw vts (.slice (some ⟨gl, 0, none⟩) ps.length cl) hs ps xs.length lab W.drew (.returned (.bool true)) w') → w'.cell? ⟨bw, 1, none⟩ = some (.slice (some ⟨gl, 0, none⟩) ps.length cl) ∧ w'.cell? ⟨gl, pi, none⟩ = some (.pointer (some ⟨ps[pi].bp, 0, none⟩)) := fun w' hB => ⟨(booked_cells hWd hB.out).1, ((booked_cells hWd hB.out).2.2 gl pi rfl hpi).trans (bptrs_at ps pi hpi)⟩
    have KF : ∀ w', Hid (BookedPost Wo bw vts (.slice (some ⟨gl, 0, none⟩) ps.length cl) hs ps xs.length lab W.drew (.returned (.bool true)) w') → Hid (StepPostB Wo bw N (.returned (.bool true)) w') := fun w' hB => by
      obtain ⟨_, _, vtx', ps', xs', lab', hw, hb, hx⟩ := hB.out
      exact ⟨rfl, _, _, _, _, _, _, _, hw, by omega, by have := bptrs_len hb; omega, by omega⟩
    obtain ⟨dd, HDD⟩ : ∃ x, Hid (ps[pi] = x) := ⟨ps[pi], by unfold Hid; rfl⟩
    rw [HDD.out] at z0 HQ KB
    have hne : ((ps.length : Int) == 0) = false := by rw [beq_eq_false_iff_ne]; omega
    have hgt2 : (pi : Int) < (ps.length : Int) := by omega
    clear h hW1 hWd hcl hal hl0 BW b0
    go_wp2_with fail
    go_region_held3 (fun w' => w'.cell? ⟨bw, 1, none⟩ = some (.slice (some ⟨gl, 0, none⟩) ps.length cl) ∧ w'.cell? ⟨w.heap.size, 0, none⟩ = some (.int .i64 12) ∧ w'.cell? ⟨w.heap.size, 1, none⟩ = some (.int .i64 a) ∧ w'.cell? ⟨w.heap.size, 2, none⟩ = some (.int .i64 b) ∧ w'.cell? ⟨w.heap.size, 3, none⟩ = some (.int .i64 c) ∧ w'.cell? ⟨w.heap.size, 4, none⟩ = some (.int .i64 d) ∧ w'.cell? ⟨w.heap.size, 5, none⟩ = some (.string s) ∧ w'.cell? ⟨w.heap.size, 6, none⟩ = some (.slice lo ll lc) ∧ w'.cell? ⟨gl, pi, none⟩ = some (.pointer (some ⟨dd.bp, 0, none⟩))) (go_keep)
      ((first
        | (go_at_call 16; refine HP.mono ?_; rintro e w' ⟨rfl, hw'⟩; obtain rfl : W.drew = w' := hw'.symm)
        | (go_at_call 22; refine HQ.mono ?_; rintro e w' hP; obtain rfl : e = .returned (.bool true) := hP.1; have hB : Hid (BookedPost Wo bw vts (.slice (some ⟨gl, 0, none⟩) ps.length cl) hs ps xs.length lab W.drew (.returned (.bool true)) w') := hP; have k0 := (KO w' hB 0).trans x0; have k1 := (KO w' hB 1).trans x1; have k2 := (KO w' hB 2).trans x2; have k3 := (KO w' hB 3).trans x3; have k4 := (KO w' hB 4).trans x4; have k5 := (KO w' hB 5).trans x5; have k6 := (KO w' hB 6).trans x6; obtain ⟨k7, k8⟩ := KB w' hB; have HFIN := KF w' hB; clear hP hB)))
    all_goals go_wp2_with fail
    all_goals go_ret
    all_goals exact HFIN.out

set_option maxRecDepth 20000 in
set_option maxHeartbeats 4000000 in
theorem stepB_has (Wo w : World) (bw N : Nat) (vts vbs vtx : Value) (hs : List Hd) (ps : List Bk) (xs : List Value) (lab : Nat → Nat) (h : WbAt Wo w bw vts vbs vtx hs ps xs lab) (h1 : hs.length ≤ N) (h2 : ps.length ≤ N) (h3 : xs.length ≤ N) (hN : N ≤ 4398046511104) (a b c d : Int) (s : ByteArray) (lo : Option Addr) (ll lc : Nat) (ha : -9223372036854775808 ≤ a ∧ a ≤ 9223372036854775807) (hss : s.size ≤ maxLen) :
    Calls Tryz.prog 12 #[.pointer (some ⟨bw, 0, none⟩), .agg #[.int .i64 13, .int .i64 a, .int .i64 b, .int .i64 c, .int .i64 d, .string s, .slice lo ll lc]] w (StepPostB Wo bw N) := by
  obtain ⟨W, hW⟩ : ∃ W, W = w.alloc (.cells #[.int .i64 13, .int .i64 a, .int .i64 b, .int .i64 c, .int .i64 d, .string s, .slice lo ll lc] 33) := ⟨_, rfl⟩
  have BW : Below w.heap.size w W := by rw [hW]; exact (Below.refl _ _).alloc (Nat.le_refl _) _
  have hWs : w.heap.size < W.heap.size := by rw [hW]; simp
  have b0 : W.heap[w.heap.size]? = some (.cells #[.int .i64 13, .int .i64 a, .int .i64 b, .int .i64 c, .int .i64 d, .string s, .slice lo ll lc] 33 (0, 0)) := by rw [hW]; exact heap_at_new rfl
  obtain ⟨x0, x1, x2, x3, x4, x5, x6⟩ := cell_seven b0
  have hW1 := h.below BW
  obtain ⟨y0, y1, y2, y3⟩ := cell_three hW1.wd.blk
  replace y1 : W.cell? ⟨bw, 1, none⟩ = some vbs := y1
  obtain ⟨al, cl, rfl, hal⟩ := ownsRow_shape hW1.ownB
  go_enter Tryz.func12, Tryz.ntmps12
  go_upto_region 1 with fail
  rw [← hW]
  clear hW
  by_cases h0 : ps.length = 0
  · rw [h0] at y1
    have HF : Hid (WbAt Wo W bw vts (.slice al ps.length cl) vtx hs ps xs lab) := hW1
    go_wp2_with fail
    go_ret
    exact ⟨rfl, _, _, _, _, _, _, _, HF.out, by omega, by omega, by omega⟩
  · obtain ⟨gl, rfl, hcl⟩ := hal (by omega)
    obtain ⟨pi, HPI⟩ : ∃ x, Hid (lpickN a ps.length = x) := ⟨_, rfl⟩
    have hpi : pi < ps.length := by rw [← HPI.out]; exact lpickN_lt _ _ (by omega)
    have HP := lpick_ok a ps.length W.drew (by omega) (by omega) ha.1 ha.2
    rw [Int.toNat_natCast, HPI.out] at HP
    have z0 := (hcl pi (by omega)).trans (bptrs_at ps pi hpi)
    have hWd : WbAt Wo W.drew bw vts (.slice (some ⟨gl, 0, none⟩) ps.length cl) vtx hs ps xs lab := hW1.below ((Below.refl _ _).drew)
    have HQ := booked_has Wo W.drew bw vts (.slice (some ⟨gl, 0, none⟩) ps.length cl) vtx hs ps xs lab hWd pi hpi a b c d s lo ll lc hss
    have hl0 : lab w.heap.size = 0 := by
      by_cases e : lab w.heap.size = 0
      · exact e
      · have := h.lt _ e; omega
    have hbw := heap_lt h.wd.blk
    have KO : ∀ w', Hid (BookedPost Wo bw vts (.slice (some ⟨gl, 0, none⟩) ps.length cl) hs ps xs.length lab W.drew (.returned (.bool true)) w') → ∀ o, w'.cell? ⟨w.heap.size, o, none⟩ = W.cell? ⟨w.heap.size, o, none⟩ := fun w' hB o => (booked_cells hWd hB.out).2.1 w.heap.size o hl0 (by omega) hWs
    have KB : ∀ w', Hid (BookedPost Wo bw vts (.slice (some ⟨gl, 0, none⟩) ps.length cl) hs ps xs.length lab W.drew (.returned (.bool true)) w') → w'.cell? ⟨bw, 1, none⟩ = some (.slice (some ⟨gl, 0, none⟩) ps.length cl) ∧ w'.cell? ⟨gl, pi, none⟩ = some (.pointer (some ⟨ps[pi].bp, 0, none⟩)) := fun w' hB => ⟨(booked_cells hWd hB.out).1, ((booked_cells hWd hB.out).2.2 gl pi rfl hpi).trans (bptrs_at ps pi hpi)⟩
    have KF : ∀ w', Hid (BookedPost Wo bw vts (.slice (some ⟨gl, 0, none⟩) ps.length cl) hs ps xs.length lab W.drew (.returned (.bool true)) w') → Hid (StepPostB Wo bw N (.returned (.bool true)) w') := fun w' hB => by
      obtain ⟨_, _, vtx', ps', xs', lab', hw, hb, hx⟩ := hB.out
      exact ⟨rfl, _, _, _, _, _, _, _, hw, by omega, by have := bptrs_len hb; omega, by omega⟩
    obtain ⟨dd, HDD⟩ : ∃ x, Hid (ps[pi] = x) := ⟨ps[pi], by unfold Hid; rfl⟩
    rw [HDD.out] at z0 HQ KB
    have hne : ((ps.length : Int) == 0) = false := by rw [beq_eq_false_iff_ne]; omega
    have hgt2 : (pi : Int) < (ps.length : Int) := by omega
    clear h hW1 hWd hcl hal hl0 BW b0
    go_wp2_with fail
    go_region_held3 (fun w' => w'.cell? ⟨bw, 1, none⟩ = some (.slice (some ⟨gl, 0, none⟩) ps.length cl) ∧ w'.cell? ⟨w.heap.size, 0, none⟩ = some (.int .i64 13) ∧ w'.cell? ⟨w.heap.size, 1, none⟩ = some (.int .i64 a) ∧ w'.cell? ⟨w.heap.size, 2, none⟩ = some (.int .i64 b) ∧ w'.cell? ⟨w.heap.size, 3, none⟩ = some (.int .i64 c) ∧ w'.cell? ⟨w.heap.size, 4, none⟩ = some (.int .i64 d) ∧ w'.cell? ⟨w.heap.size, 5, none⟩ = some (.string s) ∧ w'.cell? ⟨w.heap.size, 6, none⟩ = some (.slice lo ll lc) ∧ w'.cell? ⟨gl, pi, none⟩ = some (.pointer (some ⟨dd.bp, 0, none⟩))) (go_keep)
      ((first
        | (go_at_call 16; refine HP.mono ?_; rintro e w' ⟨rfl, hw'⟩; obtain rfl : W.drew = w' := hw'.symm)
        | (go_at_call 22; refine HQ.mono ?_; rintro e w' hP; obtain rfl : e = .returned (.bool true) := hP.1; have hB : Hid (BookedPost Wo bw vts (.slice (some ⟨gl, 0, none⟩) ps.length cl) hs ps xs.length lab W.drew (.returned (.bool true)) w') := hP; have k0 := (KO w' hB 0).trans x0; have k1 := (KO w' hB 1).trans x1; have k2 := (KO w' hB 2).trans x2; have k3 := (KO w' hB 3).trans x3; have k4 := (KO w' hB 4).trans x4; have k5 := (KO w' hB 5).trans x5; have k6 := (KO w' hB 6).trans x6; obtain ⟨k7, k8⟩ := KB w' hB; have HFIN := KF w' hB; clear hP hB)))
    all_goals go_wp2_with fail
    all_goals go_ret
    all_goals exact HFIN.out

set_option maxRecDepth 20000 in
set_option maxHeartbeats 4000000 in
theorem stepB_count (Wo w : World) (bw N : Nat) (vts vbs vtx : Value) (hs : List Hd) (ps : List Bk) (xs : List Value) (lab : Nat → Nat) (h : WbAt Wo w bw vts vbs vtx hs ps xs lab) (h1 : hs.length ≤ N) (h2 : ps.length ≤ N) (h3 : xs.length ≤ N) (hN : N ≤ 4398046511104) (a b c d : Int) (s : ByteArray) (lo : Option Addr) (ll lc : Nat) (ha : -9223372036854775808 ≤ a ∧ a ≤ 9223372036854775807) (hss : s.size ≤ maxLen) :
    Calls Tryz.prog 12 #[.pointer (some ⟨bw, 0, none⟩), .agg #[.int .i64 14, .int .i64 a, .int .i64 b, .int .i64 c, .int .i64 d, .string s, .slice lo ll lc]] w (StepPostB Wo bw N) := by
  obtain ⟨W, hW⟩ : ∃ W, W = w.alloc (.cells #[.int .i64 14, .int .i64 a, .int .i64 b, .int .i64 c, .int .i64 d, .string s, .slice lo ll lc] 33) := ⟨_, rfl⟩
  have BW : Below w.heap.size w W := by rw [hW]; exact (Below.refl _ _).alloc (Nat.le_refl _) _
  have hWs : w.heap.size < W.heap.size := by rw [hW]; simp
  have b0 : W.heap[w.heap.size]? = some (.cells #[.int .i64 14, .int .i64 a, .int .i64 b, .int .i64 c, .int .i64 d, .string s, .slice lo ll lc] 33 (0, 0)) := by rw [hW]; exact heap_at_new rfl
  obtain ⟨x0, x1, x2, x3, x4, x5, x6⟩ := cell_seven b0
  have hW1 := h.below BW
  obtain ⟨y0, y1, y2, y3⟩ := cell_three hW1.wd.blk
  replace y1 : W.cell? ⟨bw, 1, none⟩ = some vbs := y1
  obtain ⟨al, cl, rfl, hal⟩ := ownsRow_shape hW1.ownB
  go_enter Tryz.func12, Tryz.ntmps12
  go_upto_region 1 with fail
  rw [← hW]
  clear hW
  by_cases h0 : ps.length = 0
  · rw [h0] at y1
    have HF : Hid (WbAt Wo W bw vts (.slice al ps.length cl) vtx hs ps xs lab) := hW1
    go_wp2_with fail
    go_ret
    exact ⟨rfl, _, _, _, _, _, _, _, HF.out, by omega, by omega, by omega⟩
  · obtain ⟨gl, rfl, hcl⟩ := hal (by omega)
    obtain ⟨pi, HPI⟩ : ∃ x, Hid (lpickN a ps.length = x) := ⟨_, rfl⟩
    have hpi : pi < ps.length := by rw [← HPI.out]; exact lpickN_lt _ _ (by omega)
    have HP := lpick_ok a ps.length W.drew (by omega) (by omega) ha.1 ha.2
    rw [Int.toNat_natCast, HPI.out] at HP
    have z0 := (hcl pi (by omega)).trans (bptrs_at ps pi hpi)
    have hWd : WbAt Wo W.drew bw vts (.slice (some ⟨gl, 0, none⟩) ps.length cl) vtx hs ps xs lab := hW1.below ((Below.refl _ _).drew)
    have HQ := booked_count Wo W.drew bw vts (.slice (some ⟨gl, 0, none⟩) ps.length cl) vtx hs ps xs lab hWd pi hpi a b c d s lo ll lc hss
    have hl0 : lab w.heap.size = 0 := by
      by_cases e : lab w.heap.size = 0
      · exact e
      · have := h.lt _ e; omega
    have hbw := heap_lt h.wd.blk
    have KO : ∀ w', Hid (BookedPost Wo bw vts (.slice (some ⟨gl, 0, none⟩) ps.length cl) hs ps xs.length lab W.drew (.returned (.bool true)) w') → ∀ o, w'.cell? ⟨w.heap.size, o, none⟩ = W.cell? ⟨w.heap.size, o, none⟩ := fun w' hB o => (booked_cells hWd hB.out).2.1 w.heap.size o hl0 (by omega) hWs
    have KB : ∀ w', Hid (BookedPost Wo bw vts (.slice (some ⟨gl, 0, none⟩) ps.length cl) hs ps xs.length lab W.drew (.returned (.bool true)) w') → w'.cell? ⟨bw, 1, none⟩ = some (.slice (some ⟨gl, 0, none⟩) ps.length cl) ∧ w'.cell? ⟨gl, pi, none⟩ = some (.pointer (some ⟨ps[pi].bp, 0, none⟩)) := fun w' hB => ⟨(booked_cells hWd hB.out).1, ((booked_cells hWd hB.out).2.2 gl pi rfl hpi).trans (bptrs_at ps pi hpi)⟩
    have KF : ∀ w', Hid (BookedPost Wo bw vts (.slice (some ⟨gl, 0, none⟩) ps.length cl) hs ps xs.length lab W.drew (.returned (.bool true)) w') → Hid (StepPostB Wo bw N (.returned (.bool true)) w') := fun w' hB => by
      obtain ⟨_, _, vtx', ps', xs', lab', hw, hb, hx⟩ := hB.out
      exact ⟨rfl, _, _, _, _, _, _, _, hw, by omega, by have := bptrs_len hb; omega, by omega⟩
    obtain ⟨dd, HDD⟩ : ∃ x, Hid (ps[pi] = x) := ⟨ps[pi], by unfold Hid; rfl⟩
    rw [HDD.out] at z0 HQ KB
    have hne : ((ps.length : Int) == 0) = false := by rw [beq_eq_false_iff_ne]; omega
    have hgt2 : (pi : Int) < (ps.length : Int) := by omega
    clear h hW1 hWd hcl hal hl0 BW b0
    go_wp2_with fail
    go_region_held3 (fun w' => w'.cell? ⟨bw, 1, none⟩ = some (.slice (some ⟨gl, 0, none⟩) ps.length cl) ∧ w'.cell? ⟨w.heap.size, 0, none⟩ = some (.int .i64 14) ∧ w'.cell? ⟨w.heap.size, 1, none⟩ = some (.int .i64 a) ∧ w'.cell? ⟨w.heap.size, 2, none⟩ = some (.int .i64 b) ∧ w'.cell? ⟨w.heap.size, 3, none⟩ = some (.int .i64 c) ∧ w'.cell? ⟨w.heap.size, 4, none⟩ = some (.int .i64 d) ∧ w'.cell? ⟨w.heap.size, 5, none⟩ = some (.string s) ∧ w'.cell? ⟨w.heap.size, 6, none⟩ = some (.slice lo ll lc) ∧ w'.cell? ⟨gl, pi, none⟩ = some (.pointer (some ⟨dd.bp, 0, none⟩))) (go_keep)
      ((first
        | (go_at_call 16; refine HP.mono ?_; rintro e w' ⟨rfl, hw'⟩; obtain rfl : W.drew = w' := hw'.symm)
        | (go_at_call 22; refine HQ.mono ?_; rintro e w' hP; obtain rfl : e = .returned (.bool true) := hP.1; have hB : Hid (BookedPost Wo bw vts (.slice (some ⟨gl, 0, none⟩) ps.length cl) hs ps xs.length lab W.drew (.returned (.bool true)) w') := hP; have k0 := (KO w' hB 0).trans x0; have k1 := (KO w' hB 1).trans x1; have k2 := (KO w' hB 2).trans x2; have k3 := (KO w' hB 3).trans x3; have k4 := (KO w' hB 4).trans x4; have k5 := (KO w' hB 5).trans x5; have k6 := (KO w' hB 6).trans x6; obtain ⟨k7, k8⟩ := KB w' hB; have HFIN := KF w' hB; clear hP hB)))
    all_goals go_wp2_with fail
    all_goals go_ret
    all_goals exact HFIN.out

set_option maxRecDepth 20000 in
set_option maxHeartbeats 4000000 in
theorem stepB_knots (Wo w : World) (bw N : Nat) (vts vbs vtx : Value) (hs : List Hd) (ps : List Bk) (xs : List Value) (lab : Nat → Nat) (h : WbAt Wo w bw vts vbs vtx hs ps xs lab) (h1 : hs.length ≤ N) (h2 : ps.length ≤ N) (h3 : xs.length ≤ N) (hN : N ≤ 4398046511104) (a b c d : Int) (s : ByteArray) (lo : Option Addr) (ll lc : Nat) (ha : -9223372036854775808 ≤ a ∧ a ≤ 9223372036854775807) (hss : s.size ≤ maxLen) (h3b : 3 ≤ bw) (ht : PowTab w) :
    Calls Tryz.prog 12 #[.pointer (some ⟨bw, 0, none⟩), .agg #[.int .i64 15, .int .i64 a, .int .i64 b, .int .i64 c, .int .i64 d, .string s, .slice lo ll lc]] w (StepPostB Wo bw N) := by
  obtain ⟨W, hW⟩ : ∃ W, W = w.alloc (.cells #[.int .i64 15, .int .i64 a, .int .i64 b, .int .i64 c, .int .i64 d, .string s, .slice lo ll lc] 33) := ⟨_, rfl⟩
  have BW : Below w.heap.size w W := by rw [hW]; exact (Below.refl _ _).alloc (Nat.le_refl _) _
  have hWs : w.heap.size < W.heap.size := by rw [hW]; simp
  have b0 : W.heap[w.heap.size]? = some (.cells #[.int .i64 15, .int .i64 a, .int .i64 b, .int .i64 c, .int .i64 d, .string s, .slice lo ll lc] 33 (0, 0)) := by rw [hW]; exact heap_at_new rfl
  obtain ⟨x0, x1, x2, x3, x4, x5, x6⟩ := cell_seven b0
  have hW1 := h.below BW
  obtain ⟨y0, y1, y2, y3⟩ := cell_three hW1.wd.blk
  replace y1 : W.cell? ⟨bw, 1, none⟩ = some vbs := y1
  obtain ⟨al, cl, rfl, hal⟩ := ownsRow_shape hW1.ownB
  go_enter Tryz.func12, Tryz.ntmps12
  go_upto_region 1 with fail
  rw [← hW]
  clear hW
  by_cases h0 : ps.length = 0
  · rw [h0] at y1
    have HF : Hid (WbAt Wo W bw vts (.slice al ps.length cl) vtx hs ps xs lab) := hW1
    go_wp2_with fail
    go_ret
    exact ⟨rfl, _, _, _, _, _, _, _, HF.out, by omega, by omega, by omega⟩
  · obtain ⟨gl, rfl, hcl⟩ := hal (by omega)
    obtain ⟨pi, HPI⟩ : ∃ x, Hid (lpickN a ps.length = x) := ⟨_, rfl⟩
    have hpi : pi < ps.length := by rw [← HPI.out]; exact lpickN_lt _ _ (by omega)
    have HP := lpick_ok a ps.length W.drew (by omega) (by omega) ha.1 ha.2
    rw [Int.toNat_natCast, HPI.out] at HP
    have z0 := (hcl pi (by omega)).trans (bptrs_at ps pi hpi)
    have hWd : WbAt Wo W.drew bw vts (.slice (some ⟨gl, 0, none⟩) ps.length cl) vtx hs ps xs lab := hW1.below ((Below.refl _ _).drew)
    have HQ := booked_knots Wo W.drew bw vts (.slice (some ⟨gl, 0, none⟩) ps.length cl) vtx hs ps xs lab hWd pi hpi a b c d s lo ll lc hss (by omega) h3b ((ht.below (by have := heap_lt h.wd.blk; omega) BW).below (by have := heap_lt hW1.wd.blk; omega) (Below.refl W.heap.size W).drew)
    have hl0 : lab w.heap.size = 0 := by
      by_cases e : lab w.heap.size = 0
      · exact e
      · have := h.lt _ e; omega
    have hbw := heap_lt h.wd.blk
    have KO : ∀ w', Hid (BookedPost Wo bw vts (.slice (some ⟨gl, 0, none⟩) ps.length cl) hs ps xs.length lab W.drew (.returned (.bool true)) w') → ∀ o, w'.cell? ⟨w.heap.size, o, none⟩ = W.cell? ⟨w.heap.size, o, none⟩ := fun w' hB o => (booked_cells hWd hB.out).2.1 w.heap.size o hl0 (by omega) hWs
    have KB : ∀ w', Hid (BookedPost Wo bw vts (.slice (some ⟨gl, 0, none⟩) ps.length cl) hs ps xs.length lab W.drew (.returned (.bool true)) w') → w'.cell? ⟨bw, 1, none⟩ = some (.slice (some ⟨gl, 0, none⟩) ps.length cl) ∧ w'.cell? ⟨gl, pi, none⟩ = some (.pointer (some ⟨ps[pi].bp, 0, none⟩)) := fun w' hB => ⟨(booked_cells hWd hB.out).1, ((booked_cells hWd hB.out).2.2 gl pi rfl hpi).trans (bptrs_at ps pi hpi)⟩
    have KF : ∀ w', Hid (BookedPost Wo bw vts (.slice (some ⟨gl, 0, none⟩) ps.length cl) hs ps xs.length lab W.drew (.returned (.bool true)) w') → Hid (StepPostB Wo bw N (.returned (.bool true)) w') := fun w' hB => by
      obtain ⟨_, _, vtx', ps', xs', lab', hw, hb, hx⟩ := hB.out
      exact ⟨rfl, _, _, _, _, _, _, _, hw, by omega, by have := bptrs_len hb; omega, by omega⟩
    obtain ⟨dd, HDD⟩ : ∃ x, Hid (ps[pi] = x) := ⟨ps[pi], by unfold Hid; rfl⟩
    rw [HDD.out] at z0 HQ KB
    have hne : ((ps.length : Int) == 0) = false := by rw [beq_eq_false_iff_ne]; omega
    have hgt2 : (pi : Int) < (ps.length : Int) := by omega
    clear h hW1 hWd hcl hal hl0 BW b0
    go_wp2_with fail
    go_region_held3 (fun w' => w'.cell? ⟨bw, 1, none⟩ = some (.slice (some ⟨gl, 0, none⟩) ps.length cl) ∧ w'.cell? ⟨w.heap.size, 0, none⟩ = some (.int .i64 15) ∧ w'.cell? ⟨w.heap.size, 1, none⟩ = some (.int .i64 a) ∧ w'.cell? ⟨w.heap.size, 2, none⟩ = some (.int .i64 b) ∧ w'.cell? ⟨w.heap.size, 3, none⟩ = some (.int .i64 c) ∧ w'.cell? ⟨w.heap.size, 4, none⟩ = some (.int .i64 d) ∧ w'.cell? ⟨w.heap.size, 5, none⟩ = some (.string s) ∧ w'.cell? ⟨w.heap.size, 6, none⟩ = some (.slice lo ll lc) ∧ w'.cell? ⟨gl, pi, none⟩ = some (.pointer (some ⟨dd.bp, 0, none⟩))) (go_keep)
      ((first
        | (go_at_call 16; refine HP.mono ?_; rintro e w' ⟨rfl, hw'⟩; obtain rfl : W.drew = w' := hw'.symm)
        | (go_at_call 22; refine HQ.mono ?_; rintro e w' hP; obtain rfl : e = .returned (.bool true) := hP.1; have hB : Hid (BookedPost Wo bw vts (.slice (some ⟨gl, 0, none⟩) ps.length cl) hs ps xs.length lab W.drew (.returned (.bool true)) w') := hP; have k0 := (KO w' hB 0).trans x0; have k1 := (KO w' hB 1).trans x1; have k2 := (KO w' hB 2).trans x2; have k3 := (KO w' hB 3).trans x3; have k4 := (KO w' hB 4).trans x4; have k5 := (KO w' hB 5).trans x5; have k6 := (KO w' hB 6).trans x6; obtain ⟨k7, k8⟩ := KB w' hB; have HFIN := KF w' hB; clear hP hB)))
    all_goals go_wp2_with fail
    all_goals go_ret
    all_goals exact HFIN.out
end Go.Proofs.YtpngikmcjkjdaaaGreatDoor
