import Derived.Test.YtpngikmcjkjdaaaGreatDoorHeldW
import Derived.Test.YtpngikmcjkjdaaaGreatDoorRawRef
namespace Go.Proofs.YtpngikmcjkjdaaaGreatDoor
open Go.RowKit
set_option linter.unusedVariables false

theorem Touch.drew {S : Nat → Prop} {w w' : World} (h : Touch S w w') : Touch S w w'.drew := ⟨h.os, h.tape, h.output, h.size, h.block⟩
theorem two_block {w : World} {b : Nat} {x y : Value} {t : TypeId} {a : Addr} {u : Value} (h : w.heap[b]? = some (.cells #[x, y] t (0, 0))) (hne : b ≠ a.block) : (w.setCell a u).heap[b]? = some (.cells #[x, y] t (0, 0)) := heap_set_other h hne

set_option maxRecDepth 20000 in
set_option maxHeartbeats 4000000 in
theorem write_ok (d : Hd) (r k c : Int) (w : World) (h : HdAt w d) (hr1 : -9223372036854775808 ≤ r) (hr2 : r ≤ 9223372036854775807) (hk1 : -9223372036854775808 ≤ k) (hk2 : k ≤ 9223372036854775807) :
    Calls Tryz.prog 17 #[.pointer (some ⟨d.bh, 0, none⟩), .int .i64 r, .int .i64 k, .int .i64 c] w
      fun e w' => e = .returned (.tuple #[]) ∧ ∃ A X, HdAt w' { d with A := A, X := X } ∧ Touch (fun b => d.lo ≤ b ∧ b < d.hi) w w' := by
  have g3 := h.tl.ca1
  have g6 := h.tl.cn1
  have g2 := h.tl.ca
  have g5 := h.tl.cn
  have hlt := heap_lt h.blk
  obtain ⟨x0, x1, x2, x3⟩ := cell_four h.blk
  have HC := whole_ok d.t d.A d.X w h.tl
  go_enter Tryz.func17, Tryz.ntmps17
  go_wp2_with fail
  refine HC.mono ?_
  clear HC
  rintro e w1 ⟨hB1, g, cap, rfl, hg, hG⟩
  have hs1 := hB1.size
  clear x0 x1 x2 x3
  go_upto_region 1 with fail
  obtain ⟨W2, hW2⟩ : ∃ W2, W2 = w1.alloc (.cells #[.slice (some ⟨d.t.ba, 0, none⟩) d.t.ca d.t.ca, .slice (some ⟨g, 0, none⟩) d.t.cn cap] 41) := ⟨_, rfl⟩
  have hB2 : Below w1.heap.size w1 W2 := by rw [hW2]; exact (Below.refl _ _).alloc (Nat.le_refl _) _
  have hs2 : w1.heap.size < W2.heap.size := by rw [hW2]; simp
  have c0 : W2.heap[w1.heap.size]? = some (.cells #[.slice (some ⟨d.t.ba, 0, none⟩) d.t.ca d.t.ca, .slice (some ⟨g, 0, none⟩) d.t.cn cap] 41 (0, 0)) := by rw [hW2]; exact heap_at_new rfl
  have h2 := (h.below hB1).below hB2
  have hG2 := hG.below hB2
  rw [← hW2]
  have HT : Hid (Touch (fun b => d.lo ≤ b ∧ b < d.hi) w W2) := by
    have := hB1.trans (hB2.mono (show w.heap.size ≤ w1.heap.size by omega))
    exact ⟨this.os, this.tape, this.output, this.size, fun k hk _ => this.block k hk⟩
  have hsz := h.siz
  clear hW2 hB1 hB2 hG
  have H2 : Hid (HdAt W2 d) := h2
  obtain ⟨y0, y1, _, _⟩ := cell_two c0
  obtain ⟨pi, HPI⟩ : ∃ x, Hid (lpickN r d.t.cn = x) := ⟨_, rfl⟩
  have hpi : pi < d.t.cn := by rw [← HPI.out]; exact lpickN_lt _ _ (by omega)
  have HP1 := lpick_ok r d.t.cn W2 (by omega) (by omega) hr1 hr2
  rw [Int.toNat_natCast, HPI.out] at HP1
  have z0 := hG2.cell hpi
  have hrc := h.tl.rc pi hpi
  clear h hG2
  by_cases hr0 : d.t.rc pi = 0
  · have e1 : rowv d.t.rb d.t.rc d.t.rc pi = .slice none 0 0 := by unfold rowv; rw [if_pos hr0]
    rw [e1] at z0
    clear e1 h2 hr0
    go_upto_region 7 with (go_at_call 16; refine HP1.mono ?_; rintro e w' ⟨rfl, hw'⟩; obtain rfl : W2 = w' := hw'.symm)
    obtain ⟨X, HD⟩ : ∃ X, Hid (HdAt W2 { d with X := X }) := ⟨d.X, H2⟩
    have hT : Hid (Touch (fun b => d.lo ≤ b ∧ b < d.hi) w W2) := HT
    obtain ⟨wc, HWC⟩ : ∃ wc, wc = W2 := ⟨_, rfl⟩
    rw [← HWC] at HD hT c0 ⊢
    clear HP1 z0 H2 y0 y1 HT hpi hrc HWC
    obtain ⟨y0, y1, _, _⟩ := cell_two c0
    obtain ⟨x0, x1, x2, x3⟩ := cell_four HD.out.blk
    simp only at x0 x1 x2 x3
    obtain ⟨pa, HPA⟩ : ∃ x, Hid (lpickN k d.t.ca = x) := ⟨_, rfl⟩
    have hpa : pa < d.t.ca := by rw [← HPA.out]; exact lpickN_lt _ _ (by omega)
    have HP1 := lpick_ok k d.t.ca wc (by omega) (by omega) hk1 hk2
    rw [Int.toNat_natCast, HPA.out] at HP1
    have r1 : RowTo wc d.t.ba 4 d.t.ca (fun i => .bool (d.A i)) := HD.out.tl.acc
    have r2 : RowTo wc d.wa 4 d.t.ca (fun i => .bool (d.A i)) := HD.out.wacc
    have k1 := r1.cell hpa
    have k2 := r2.cell hpa
    have k3 := r1.frozen pa
    have k4 := r2.frozen pa
    have d1 : ¬ d.t.ba = d.wa := HD.out.daw
    have d1' : ¬ d.wa = d.t.ba := fun e => d1 e.symm
    have d2 : ¬ d.bh = d.t.ba := heap_ne HD.out.blk r1 (by decide)
    have d3 : ¬ d.bh = d.wa := heap_ne HD.out.blk r2 (by decide)
    have d5 : ¬ w1.heap.size = d.t.ba := heap_ne c0 r1 (by decide)
    have d6 : ¬ w1.heap.size = d.wa := heap_ne c0 r2 (by decide)
    have v1 : d.lo ≤ d.t.ba ∧ d.t.ba < d.hi := HD.out.ra
    have v2 : d.lo ≤ d.wa ∧ d.wa < d.hi := HD.out.sa
    have hgt : (0 : Int) < (d.t.ca : Int) := by omega
    clear r1 r2 c0
    go_wp2_with (go_at_call 16; refine HP1.mono ?_; rintro e w' ⟨rfl, hw'⟩; obtain rfl : wc = w' := hw'.symm)
    go_region
    go_wp2_with fail
    go_region
    go_wp2_with fail
    go_end0
    exact ⟨rfl, _, _, ((HD.out.flip (i := pa) (!d.A pa)).below ((Below.refl _ _).drew)).below ((Below.refl _ _).drew), (((hT.out.set ⟨d.t.ba, pa, none⟩ _ (.inl v1)).set ⟨d.wa, pa, none⟩ _ (.inl v2)).drew).drew⟩
  · have e1 : rowv d.t.rb d.t.rc d.t.rc pi = .slice (some ⟨d.t.rb pi, 0, none⟩) (d.t.rc pi) (d.t.rc pi) := by unfold rowv; rw [if_neg hr0]
    rw [e1] at z0
    have hrp : 0 < d.t.rc pi := by omega
    obtain ⟨x0, x1, x2, x3⟩ := cell_four h2.blk
    have e2 := h2.wnxt.cell hpi
    rw [show rowv d.wb d.t.rc d.wc pi = .slice (some ⟨d.wb pi, 0, none⟩) (d.t.rc pi) (d.wc pi) from by unfold rowv; rw [if_neg hr0]] at e2
    obtain ⟨pj, HPJ⟩ : ∃ x, Hid (lpickN k (d.t.rc pi) = x) := ⟨_, rfl⟩
    have hpj : pj < d.t.rc pi := by rw [← HPJ.out]; exact lpickN_lt _ _ (by omega)
    have HP2 := lpick_ok k (d.t.rc pi) W2 (by omega) (by omega) hk1 hk2
    rw [Int.toNat_natCast, HPJ.out] at HP2
    have r1 := h2.tl.row pi hpi hrp
    have r2 := h2.wrow pi hpi hrp
    have k1 := r1.cell hpj
    have k2 := r2.cell hpj
    have k3 := r1.frozen pj
    have k4 := r2.frozen pj
    have d1 := h2.drw pi pi hpi hpi hrp hrp
    have d1' : ¬ d.wb pi = d.t.rb pi := fun e => d1 e.symm
    have d2 := heap_ne h2.blk r1 (by decide)
    have d3 := heap_ne h2.blk r2 (by decide)
    have d4 : ¬ d.wn = d.t.rb pi := h2.wnxt.ne r1 (by decide)
    have d5 : ¬ w1.heap.size = d.t.rb pi := heap_ne c0 r1 (by decide)
    have d6 : ¬ w1.heap.size = d.wb pi := heap_ne c0 r2 (by decide)
    have v1 := h2.rr pi hpi hrp
    have v2 := h2.sr pi hpi hrp
    have hgt : (0 : Int) < (d.t.rc pi : Int) := by omega
    clear e1 h2 r1 r2 hr0
    go_upto_region 7 with (first | (go_at_call 16; refine HP1.mono ?_; rintro e w' ⟨rfl, hw'⟩; obtain rfl : W2 = w' := hw'.symm; clear HP1 hw') | (go_at_call 16; refine HP2.mono ?_; rintro e w' ⟨rfl, hw'⟩; obtain rfl : W2 = w' := hw'.symm))
    obtain ⟨wc, HWC⟩ : ∃ wc, wc = (W2.setCell ⟨d.t.rb pi, pj, none⟩ (.int .i64 c)).setCell ⟨d.wb pi, pj, none⟩ (.int .i64 c) := ⟨_, rfl⟩
    obtain ⟨X, HX⟩ : ∃ X, Hid (X = fun x y => if x = pi then (if y = pj then c else d.X pi y) else d.X x y) := ⟨_, rfl⟩
    have HD : Hid (HdAt wc { d with X := X }) := by rw [HWC, HX.out]; exact H2.out.put hpi hrp c (j := pj)
    have hT : Hid (Touch (fun b => d.lo ≤ b ∧ b < d.hi) w wc) := by rw [HWC]; exact (HT.out.set _ _ (.inl v1)).set ⟨d.wb pi, pj, none⟩ _ (.inl v2)
    have c0' : wc.heap[w1.heap.size]? = some (.cells #[.slice (some ⟨d.t.ba, 0, none⟩) d.t.ca d.t.ca, .slice (some ⟨g, 0, none⟩) d.t.cn cap] 41 (0, 0)) := by rw [HWC]; exact heap_set_other (heap_set_other c0 d5) d6
    rw [← HWC]
    clear HP2 z0 H2 y0 y1 HT hpi hrc HX HWC x0 x1 x2 x3 e2 k1 k2 k3 k4 d1 d1' d2 d3 d4 d5 d6 v1 v2 c0 hpj hgt
    have c0 := c0'
    clear c0'
    obtain ⟨y0, y1, _, _⟩ := cell_two c0
    obtain ⟨x0, x1, x2, x3⟩ := cell_four HD.out.blk
    simp only at x0 x1 x2 x3
    obtain ⟨pa, HPA⟩ : ∃ x, Hid (lpickN k d.t.ca = x) := ⟨_, rfl⟩
    have hpa : pa < d.t.ca := by rw [← HPA.out]; exact lpickN_lt _ _ (by omega)
    have HP1 := lpick_ok k d.t.ca wc (by omega) (by omega) hk1 hk2
    rw [Int.toNat_natCast, HPA.out] at HP1
    have r1 : RowTo wc d.t.ba 4 d.t.ca (fun i => .bool (d.A i)) := HD.out.tl.acc
    have r2 : RowTo wc d.wa 4 d.t.ca (fun i => .bool (d.A i)) := HD.out.wacc
    have k1 := r1.cell hpa
    have k2 := r2.cell hpa
    have k3 := r1.frozen pa
    have k4 := r2.frozen pa
    have d1 : ¬ d.t.ba = d.wa := HD.out.daw
    have d1' : ¬ d.wa = d.t.ba := fun e => d1 e.symm
    have d2 : ¬ d.bh = d.t.ba := heap_ne HD.out.blk r1 (by decide)
    have d3 : ¬ d.bh = d.wa := heap_ne HD.out.blk r2 (by decide)
    have d5 : ¬ w1.heap.size = d.t.ba := heap_ne c0 r1 (by decide)
    have d6 : ¬ w1.heap.size = d.wa := heap_ne c0 r2 (by decide)
    have v1 : d.lo ≤ d.t.ba ∧ d.t.ba < d.hi := HD.out.ra
    have v2 : d.lo ≤ d.wa ∧ d.wa < d.hi := HD.out.sa
    have hgt : (0 : Int) < (d.t.ca : Int) := by omega
    clear r1 r2 c0
    go_wp2_with (go_at_call 16; refine HP1.mono ?_; rintro e w' ⟨rfl, hw'⟩; obtain rfl : wc = w' := hw'.symm)
    go_region
    go_wp2_with fail
    go_region
    go_wp2_with fail
    go_end0
    exact ⟨rfl, _, _, ((HD.out.flip (i := pa) (!d.A pa)).below ((Below.refl _ _).drew)).below ((Below.refl _ _).drew), (((hT.out.set ⟨d.t.ba, pa, none⟩ _ (.inl v1)).set ⟨d.wa, pa, none⟩ _ (.inl v2)).drew).drew⟩


/-- A table of the caller's, as lists. -/
def TL.lay (t : TL) : RLay := ⟨some ⟨t.ba, 0, none⟩, some ⟨t.bn, 0, none⟩, t.na, t.ca, t.nn, t.cn, fun i => if t.rc i = 0 then none else some ⟨t.rb i, 0, none⟩, t.rl, fun i => if t.rc i = 0 then 0 else t.rc i⟩
theorem TLAt.raw {w : World} {t : TL} {A : Nat → Bool} {X : Nat → Nat → Int} (h : TLAt w t A X) : RawAt w t.lay A X where
  la := by have := h.na; have := h.ca; show t.na ≤ _; omega
  ln := by have := h.nn; have := h.cn; show t.nn ≤ _; omega
  lr i hi := by
    have h1 : i < t.nn := hi
    have := h.nn
    have := h.rl i (by omega); have := h.rc i (by omega); show t.rl i ≤ _; omega
  acc i hi := ⟨t.ba, 0, rfl, by rw [Nat.zero_add]; exact h.acc.cell (Nat.lt_of_lt_of_le hi h.na)⟩
  row i hi := by
    have h1 : i < t.nn := hi
    have h2 := h.nn
    refine ⟨t.bn, 0, rfl, ?_⟩
    rw [Nat.zero_add, h.nxt.cell (by omega)]
    unfold tlv TL.lay
    by_cases e : t.rc i = 0
    · have := h.rl i (by omega)
      simp only [if_pos e]
      rw [show t.rl i = 0 by omega]
    · simp only [if_neg e]
  cel i c hi hc := by
    have h1 : i < t.nn := hi
    have h2 := h.nn
    have h3 : c < t.rl i := hc
    have h4 := h.rl i (by omega)
    refine ⟨t.rb i, 0, ?_, by rw [Nat.zero_add]; exact (h.row i (by omega) (by omega)).cell (by omega)⟩
    show (if t.rc i = 0 then none else some (⟨t.rb i, 0, none⟩ : Addr)) = _
    rw [if_neg (by omega)]
theorem rawOk_congr {r r' : RLay} {X : Nat → Nat → Int} (h1 : r.na = r'.na) (h2 : r.nn = r'.nn) (h3 : r.rl = r'.rl) : rawOk r X = rawOk r' X := by
  have : ∀ k, rowsOk r X k = rowsOk r' X k := by
    intro k
    induction k with
    | zero => rfl
    | succ k ih => simp only [rowsOk, ih, h2, h3]
  simp only [rawOk, h1, h2, this]
theorem rawTab_congr {r r' : RLay} {A : Nat → Bool} {X : Nat → Nat → Int} (h : r.nn = r'.nn) : rawTab r A X = rawTab r' A X := by simp only [rawTab, h]

/-- The copy's lists. -/
theorem CopyAt.raw {N : Nat} {w : World} {ga gn : Nat} {rb rc : Nat → Nat} {na nn : Nat} {rl : Nat → Nat} {A : Nat → Bool} {X : Nat → Nat → Int} (h : CopyAt N w ga gn rb rc na nn rl A X) (ca cn : Nat) (b1 : na ≤ 9223372036854775807) (b2 : nn ≤ 9223372036854775807) (b3 : ∀ i, i < nn → rl i ≤ 9223372036854775807) :
    RawAt w ⟨if na = 0 then none else some ⟨ga, 0, none⟩, if nn = 0 then none else some ⟨gn, 0, none⟩, na, if na = 0 then 0 else ca, nn, if nn = 0 then 0 else cn, fun i => if rl i = 0 then none else some ⟨rb i, 0, none⟩, rl, fun i => if rl i = 0 then 0 else rc i⟩ A X :=
  raw_of _ _ (fun h0 => ⟨if_neg (by omega), (h.acc h0).2⟩) (fun h0 => ⟨if_neg (by omega), (h.nxt h0).2⟩) (fun j hj hl => (h.row j hj hl).2) b1 b2 b3

/-- A step, as it comes in. -/
def opv (kind a b c d : Int) (s : ByteArray) (lo : Option Addr) (ll lc : Nat) : Value := .agg #[.int .i64 kind, .int .i64 a, .int .i64 b, .int .i64 c, .int .i64 d, .string s, .slice lo ll lc]
theorem cell_seven {w : World} {b : Nat} {x0 x1 x2 x3 x4 x5 x6 : Value} {t : TypeId} (h : w.heap[b]? = some (.cells #[x0, x1, x2, x3, x4, x5, x6] t (0, 0))) : w.cell? ⟨b, 0, none⟩ = some x0 ∧ w.cell? ⟨b, 1, none⟩ = some x1 ∧ w.cell? ⟨b, 2, none⟩ = some x2 ∧ w.cell? ⟨b, 3, none⟩ = some x3 ∧ w.cell? ⟨b, 4, none⟩ = some x4 ∧ w.cell? ⟨b, 5, none⟩ = some x5 ∧ w.cell? ⟨b, 6, none⟩ = some x6 := by
  simp [World.cell?, h]
end Go.Proofs.YtpngikmcjkjdaaaGreatDoor
