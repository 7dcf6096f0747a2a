import Derived.Deep.RegionHeld3
import Derived.Deep.RegionLaw
import Derived.Lib.JoinLaws
import Derived.Test.YtpngikmcjkjdaaaGreatDoorG22
import Derived.Test.YtpngikmcjkjdaaaGreatDoorG23
set_option linter.unusedVariables false
set_option linter.unusedSimpArgs false
namespace Go.Proofs.YtpngikmcjkjdaaaGreatDoor
open Go.RowKit
set_option linter.unusedVariables false
theorem Touch.drew {S : Nat → Prop} {w w' : World} (h : Touch S w w') : Touch S w w'.drew := ⟨h.os, h.tape, h.output, h.size, h.block⟩
set_option maxRecDepth 20000 in
set_option maxHeartbeats 4000000 in
theorem write_ok (d : Hd) (r k c : Int) (w : World) (h : HdAt w d) (hr1 : -9223372036854775808 ≤ r) (hr2 : r ≤ 9223372036854775807) (hk1 : -9223372036854775808 ≤ k) (hk2 : k ≤ 9223372036854775807) :
    Calls Tryz.prog 17 #[.pointer (some ⟨d.bh, 0, none⟩), .int .i64 r, .int .i64 k, .int .i64 c] w
      fun e w' => e = .returned (.tuple #[]) ∧ ∃ A X, HdAt w' { d with A := A, X := X } ∧ Touch (fun b => d.lo ≤ b ∧ b < d.hi) w w' := by
  have g3 := h.tl.ca1
  have g6 := h.tl.cn1
  have g2 := h.tl.ca
  have g5 := h.tl.cn
  have hlt := heap_lt h.blk
  obtain ⟨x0, x1, x2, x3⟩ := cell_four h.blk
  have HC := whole_ok d.t d.A d.X w h.tl
  go_enter Tryz.func17, Tryz.ntmps17
  go_wp2_with fail
  refine HC.mono ?_
  clear HC
  rintro e w1 ⟨hB1, g, cap, rfl, hg, hG⟩
  have hs1 := hB1.size
  clear x0 x1 x2 x3
  go_upto_region 1 with fail
  obtain ⟨W2, hW2⟩ : ∃ W2, W2 = w1.alloc (.cells #[.slice (some ⟨d.t.ba, 0, none⟩) d.t.ca d.t.ca, .slice (some ⟨g, 0, none⟩) d.t.cn cap] 41) := ⟨_, rfl⟩
  have hB2 : Below w1.heap.size w1 W2 := by rw [hW2]; exact (Below.refl _ _).alloc (Nat.le_refl _) _
  have hs2 : w1.heap.size < W2.heap.size := by rw [hW2]; simp
  have c0 : W2.heap[w1.heap.size]? = some (.cells #[.slice (some ⟨d.t.ba, 0, none⟩) d.t.ca d.t.ca, .slice (some ⟨g, 0, none⟩) d.t.cn cap] 41 (0, 0)) := by rw [hW2]; exact heap_at_new rfl
  have h2 := (h.below hB1).below hB2
  have hG2 := hG.below hB2
  rw [← hW2]
  have HT : Hid (Touch (fun b => d.lo ≤ b ∧ b < d.hi) w W2) := by
    have := hB1.trans (hB2.mono (show w.heap.size ≤ w1.heap.size by omega))
    exact ⟨this.os, this.tape, this.output, this.size, fun k hk _ => this.block k hk⟩
  have hsz := h.siz
  clear hW2 hB1 hB2 hG
  have H2 : Hid (HdAt W2 d) := h2
  obtain ⟨y0, y1, _, _⟩ := cell_two c0
  obtain ⟨pi, HPI⟩ : ∃ x, Hid (lpickN r d.t.cn = x) := ⟨_, rfl⟩
  have hpi : pi < d.t.cn := by rw [← HPI.out]; exact lpickN_lt _ _ (by omega)
  have HP1 := lpick_ok r d.t.cn W2 (by omega) (by omega) hr1 hr2
  rw [Int.toNat_natCast, HPI.out] at HP1
  have z0 := hG2.cell hpi
  have hrc := h.tl.rc pi hpi
  clear h hG2
  by_cases hr0 : d.t.rc pi = 0
  · have e1 : rowv d.t.rb d.t.rc d.t.rc pi = .slice none 0 0 := by unfold rowv; rw [if_pos hr0]
    rw [e1] at z0
    clear e1 h2 hr0
    go_upto_region 7 with (go_at_call 16; refine HP1.mono ?_; rintro e w' ⟨rfl, hw'⟩; obtain rfl : W2 = w' := hw'.symm)
    obtain ⟨X, HD⟩ : ∃ X, Hid (HdAt W2 { d with X := X }) := ⟨d.X, H2⟩
    have hT : Hid (Touch (fun b => d.lo ≤ b ∧ b < d.hi) w W2) := HT
    obtain ⟨wc, HWC⟩ : ∃ wc, wc = W2 := ⟨_, rfl⟩
    rw [← HWC] at HD hT c0 ⊢
    clear HP1 z0 H2 y0 y1 HT hpi hrc HWC
    obtain ⟨y0, y1, _, _⟩ := cell_two c0
    obtain ⟨x0, x1, x2, x3⟩ := cell_four HD.out.blk
    simp only at x0 x1 x2 x3
    obtain ⟨pa, HPA⟩ : ∃ x, Hid (lpickN k d.t.ca = x) := ⟨_, rfl⟩
    have hpa : pa < d.t.ca := by rw [← HPA.out]; exact lpickN_lt _ _ (by omega)
    have HP1 := lpick_ok k d.t.ca wc (by omega) (by omega) hk1 hk2
    rw [Int.toNat_natCast, HPA.out] at HP1
    have r1 : RowTo wc d.t.ba 4 d.t.ca (fun i => .bool (d.A i)) := HD.out.tl.acc
    have r2 : RowTo wc d.wa 4 d.t.ca (fun i => .bool (d.A i)) := HD.out.wacc
    have k1 := r1.cell hpa
    have k2 := r2.cell hpa
    have k3 := r1.frozen pa
    have k4 := r2.frozen pa
    have d1 : ¬ d.t.ba = d.wa := HD.out.daw
    have d1' : ¬ d.wa = d.t.ba := fun e => d1 e.symm
    have d2 : ¬ d.bh = d.t.ba := heap_ne HD.out.blk r1 (by decide)
    have d3 : ¬ d.bh = d.wa := heap_ne HD.out.blk r2 (by decide)
    have d5 : ¬ w1.heap.size = d.t.ba := heap_ne c0 r1 (by decide)
    have d6 : ¬ w1.heap.size = d.wa := heap_ne c0 r2 (by decide)
    have v1 : d.lo ≤ d.t.ba ∧ d.t.ba < d.hi := HD.out.ra
    have v2 : d.lo ≤ d.wa ∧ d.wa < d.hi := HD.out.sa
    have hgt : (0 : Int) < (d.t.ca : Int) := by omega
    clear r1 r2 c0
    go_wp2_with (go_at_call 16; refine HP1.mono ?_; rintro e w' ⟨rfl, hw'⟩; obtain rfl : wc = w' := hw'.symm)
    go_region
    go_wp2_with fail
    go_region
    go_wp2_with fail
    go_end0
    exact ⟨rfl, _, _, ((HD.out.flip (i := pa) (!d.A pa)).below ((Below.refl _ _).drew)).below ((Below.refl _ _).drew), (((hT.out.set ⟨d.t.ba, pa, none⟩ _ (.inl v1)).set ⟨d.wa, pa, none⟩ _ (.inl v2)).drew).drew⟩
  · have e1 : rowv d.t.rb d.t.rc d.t.rc pi = .slice (some ⟨d.t.rb pi, 0, none⟩) (d.t.rc pi) (d.t.rc pi) := by unfold rowv; rw [if_neg hr0]
    rw [e1] at z0
    have hrp : 0 < d.t.rc pi := by omega
    obtain ⟨x0, x1, x2, x3⟩ := cell_four h2.blk
    have e2 := h2.wnxt.cell hpi
    rw [show rowv d.wb d.t.rc d.wc pi = .slice (some ⟨d.wb pi, 0, none⟩) (d.t.rc pi) (d.wc pi) from by unfold rowv; rw [if_neg hr0]] at e2
    obtain ⟨pj, HPJ⟩ : ∃ x, Hid (lpickN k (d.t.rc pi) = x) := ⟨_, rfl⟩
    have hpj : pj < d.t.rc pi := by rw [← HPJ.out]; exact lpickN_lt _ _ (by omega)
    have HP2 := lpick_ok k (d.t.rc pi) W2 (by omega) (by omega) hk1 hk2
    rw [Int.toNat_natCast, HPJ.out] at HP2
    have r1 := h2.tl.row pi hpi hrp
    have r2 := h2.wrow pi hpi hrp
    have k1 := r1.cell hpj
    have k2 := r2.cell hpj
    have k3 := r1.frozen pj
    have k4 := r2.frozen pj
    have d1 := h2.drw pi pi hpi hpi hrp hrp
    have d1' : ¬ d.wb pi = d.t.rb pi := fun e => d1 e.symm
    have d2 := heap_ne h2.blk r1 (by decide)
    have d3 := heap_ne h2.blk r2 (by decide)
    have d4 : ¬ d.wn = d.t.rb pi := h2.wnxt.ne r1 (by decide)
    have d5 : ¬ w1.heap.size = d.t.rb pi := heap_ne c0 r1 (by decide)
    have d6 : ¬ w1.heap.size = d.wb pi := heap_ne c0 r2 (by decide)
    have v1 := h2.rr pi hpi hrp
    have v2 := h2.sr pi hpi hrp
    have hgt : (0 : Int) < (d.t.rc pi : Int) := by omega
    clear e1 h2 r1 r2 hr0
    go_upto_region 7 with (first | (go_at_call 16; refine HP1.mono ?_; rintro e w' ⟨rfl, hw'⟩; obtain rfl : W2 = w' := hw'.symm; clear HP1 hw') | (go_at_call 16; refine HP2.mono ?_; rintro e w' ⟨rfl, hw'⟩; obtain rfl : W2 = w' := hw'.symm))
    obtain ⟨wc, HWC⟩ : ∃ wc, wc = (W2.setCell ⟨d.t.rb pi, pj, none⟩ (.int .i64 c)).setCell ⟨d.wb pi, pj, none⟩ (.int .i64 c) := ⟨_, rfl⟩
    obtain ⟨X, HX⟩ : ∃ X, Hid (X = fun x y => if x = pi then (if y = pj then c else d.X pi y) else d.X x y) := ⟨_, rfl⟩
    have HD : Hid (HdAt wc { d with X := X }) := by rw [HWC, HX.out]; exact H2.out.put hpi hrp c (j := pj)
    have hT : Hid (Touch (fun b => d.lo ≤ b ∧ b < d.hi) w wc) := by rw [HWC]; exact (HT.out.set _ _ (.inl v1)).set ⟨d.wb pi, pj, none⟩ _ (.inl v2)
    have c0' : wc.heap[w1.heap.size]? = some (.cells #[.slice (some ⟨d.t.ba, 0, none⟩) d.t.ca d.t.ca, .slice (some ⟨g, 0, none⟩) d.t.cn cap] 41 (0, 0)) := by rw [HWC]; exact heap_set_other (heap_set_other c0 d5) d6
    rw [← HWC]
    clear HP2 z0 H2 y0 y1 HT hpi hrc HX HWC x0 x1 x2 x3 e2 k1 k2 k3 k4 d1 d1' d2 d3 d4 d5 d6 v1 v2 c0 hpj hgt
    have c0 := c0'
    clear c0'
    obtain ⟨y0, y1, _, _⟩ := cell_two c0
    obtain ⟨x0, x1, x2, x3⟩ := cell_four HD.out.blk
    simp only at x0 x1 x2 x3
    obtain ⟨pa, HPA⟩ : ∃ x, Hid (lpickN k d.t.ca = x) := ⟨_, rfl⟩
    have hpa : pa < d.t.ca := by rw [← HPA.out]; exact lpickN_lt _ _ (by omega)
    have HP1 := lpick_ok k d.t.ca wc (by omega) (by omega) hk1 hk2
    rw [Int.toNat_natCast, HPA.out] at HP1
    have r1 : RowTo wc d.t.ba 4 d.t.ca (fun i => .bool (d.A i)) := HD.out.tl.acc
    have r2 : RowTo wc d.wa 4 d.t.ca (fun i => .bool (d.A i)) := HD.out.wacc
    have k1 := r1.cell hpa
    have k2 := r2.cell hpa
    have k3 := r1.frozen pa
    have k4 := r2.frozen pa
    have d1 : ¬ d.t.ba = d.wa := HD.out.daw
    have d1' : ¬ d.wa = d.t.ba := fun e => d1 e.symm
    have d2 : ¬ d.bh = d.t.ba := heap_ne HD.out.blk r1 (by decide)
    have d3 : ¬ d.bh = d.wa := heap_ne HD.out.blk r2 (by decide)
    have d5 : ¬ w1.heap.size = d.t.ba := heap_ne c0 r1 (by decide)
    have d6 : ¬ w1.heap.size = d.wa := heap_ne c0 r2 (by decide)
    have v1 : d.lo ≤ d.t.ba ∧ d.t.ba < d.hi := HD.out.ra
    have v2 : d.lo ≤ d.wa ∧ d.wa < d.hi := HD.out.sa
    have hgt : (0 : Int) < (d.t.ca : Int) := by omega
    clear r1 r2 c0
    go_wp2_with (go_at_call 16; refine HP1.mono ?_; rintro e w' ⟨rfl, hw'⟩; obtain rfl : wc = w' := hw'.symm)
    go_region
    go_wp2_with fail
    go_region
    go_wp2_with fail
    go_end0
    exact ⟨rfl, _, _, ((HD.out.flip (i := pa) (!d.A pa)).below ((Below.refl _ _).drew)).below ((Below.refl _ _).drew), (((hT.out.set ⟨d.t.ba, pa, none⟩ _ (.inl v1)).set ⟨d.wa, pa, none⟩ _ (.inl v2)).drew).drew⟩
def TL.lay (t : TL) : RLay := ⟨some ⟨t.ba, 0, none⟩, some ⟨t.bn, 0, none⟩, t.na, t.ca, t.nn, t.cn, fun i => if t.rc i = 0 then none else some ⟨t.rb i, 0, none⟩, t.rl, fun i => if t.rc i = 0 then 0 else t.rc i⟩
theorem TLAt.raw {w : World} {t : TL} {A : Nat → Bool} {X : Nat → Nat → Int} (h : TLAt w t A X) : RawAt w t.lay A X where
  la := by have := h.na; have := h.ca; show t.na ≤ _; omega
  ln := by have := h.nn; have := h.cn; show t.nn ≤ _; omega
  lr i hi := by
    have h1 : i < t.nn := hi
    have := h.nn
    have := h.rl i (by omega); have := h.rc i (by omega); show t.rl i ≤ _; omega
  acc i hi := ⟨t.ba, 0, rfl, by rw [Nat.zero_add]; exact h.acc.cell (Nat.lt_of_lt_of_le hi h.na)⟩
  row i hi := by
    have h1 : i < t.nn := hi
    have h2 := h.nn
    refine ⟨t.bn, 0, rfl, ?_⟩
    rw [Nat.zero_add, h.nxt.cell (by omega)]
    unfold tlv TL.lay
    by_cases e : t.rc i = 0
    · have := h.rl i (by omega)
      simp only [if_pos e]
      rw [show t.rl i = 0 by omega]
    · simp only [if_neg e]
  cel i c hi hc := by
    have h1 : i < t.nn := hi
    have h2 := h.nn
    have h3 : c < t.rl i := hc
    have h4 := h.rl i (by omega)
    refine ⟨t.rb i, 0, ?_, by rw [Nat.zero_add]; exact (h.row i (by omega) (by omega)).cell (by omega)⟩
    show (if t.rc i = 0 then none else some (⟨t.rb i, 0, none⟩ : Addr)) = _
    rw [if_neg (by omega)]
theorem CopyAt.raw {N : Nat} {w : World} {ga gn : Nat} {rb rc : Nat → Nat} {na nn : Nat} {rl : Nat → Nat} {A : Nat → Bool} {X : Nat → Nat → Int} (h : CopyAt N w ga gn rb rc na nn rl A X) (ca cn : Nat) (b1 : na ≤ 9223372036854775807) (b2 : nn ≤ 9223372036854775807) (b3 : ∀ i, i < nn → rl i ≤ 9223372036854775807) :
    RawAt w ⟨if na = 0 then none else some ⟨ga, 0, none⟩, if nn = 0 then none else some ⟨gn, 0, none⟩, na, if na = 0 then 0 else ca, nn, if nn = 0 then 0 else cn, fun i => if rl i = 0 then none else some ⟨rb i, 0, none⟩, rl, fun i => if rl i = 0 then 0 else rc i⟩ A X :=
  raw_of _ _ (fun h0 => ⟨if_neg (by omega), (h.acc h0).2⟩) (fun h0 => ⟨if_neg (by omega), (h.nxt h0).2⟩) (fun j hj hl => (h.row j hj hl).2) b1 b2 b3
theorem cell_seven {w : World} {b : Nat} {x0 x1 x2 x3 x4 x5 x6 : Value} {t : TypeId} (h : w.heap[b]? = some (.cells #[x0, x1, x2, x3, x4, x5, x6] t (0, 0))) : w.cell? ⟨b, 0, none⟩ = some x0 ∧ w.cell? ⟨b, 1, none⟩ = some x1 ∧ w.cell? ⟨b, 2, none⟩ = some x2 ∧ w.cell? ⟨b, 3, none⟩ = some x3 ∧ w.cell? ⟨b, 4, none⟩ = some x4 ∧ w.cell? ⟨b, 5, none⟩ = some x5 ∧ w.cell? ⟨b, 6, none⟩ = some x6 := by
  simp [World.cell?, h]
end Go.Proofs.YtpngikmcjkjdaaaGreatDoor
namespace Go.Proofs.YtpngikmcjkjdaaaGreatDoor
open Go.RowKit
set_option linter.unusedVariables false
structure LCode (w : World) (ao : Option Addr) (len : Nat) (z : Nat → Int) : Prop where
  ln : len ≤ 17592186044416
  cell : ∀ t, t < len → ∃ b o, ao = some ⟨b, o, none⟩ ∧ w.cell? ⟨b, o + t, none⟩ = some (.int .i64 (z t))
theorem LCode.below {w w' : World} {ao : Option Addr} {len : Nat} {z : Nat → Int} (h : LCode w ao len z) (hb : Below w.heap.size w w') : LCode w' ao len z :=
  ⟨h.ln, fun t ht => by obtain ⟨b, o, e, hc⟩ := h.cell t ht; exact ⟨b, o, e, by rw [(bcell hb).1 _ _ (lt_of_cell hc)]; exact hc⟩⟩
theorem run_make0 {P : Program} (t e : TypeId) (z : Value) (bytes : Nat) (ht : P.underlying t = some (.slice e)) (hinfo : (P.info? e).map (fun i => (i.zero, i.size, i.bytes)) = some (some z, 1, bytes)) (hz1 : z.cells = #[z])
    (n : Nat) (hbytes : bytes * n ≤ 281474976710656) (h63 : n ≤ 9223372036854775807) (w : World) :
    (Instr.makeSlice t (.int .i64 0) (.int .i64 (n : Int))).run P w = .ok (.slice (some ⟨w.heap.size, 0, none⟩) 0 n) (w.alloc (.cells (madeCells #[z] n) e)) := by
  obtain ⟨i, hi, hzz⟩ := Option.map_eq_some_iff.1 hinfo
  simp only [Prod.mk.injEq] at hzz
  obtain ⟨hz, hs, hb⟩ := hzz
  have hb' : (i.bytes : Int) * (n : Int) ≤ 281474976710656 := by
    rw [hb]
    have h : ((bytes * n : Nat) : Int) ≤ 281474976710656 := by omega
    rwa [Int.natCast_mul] at h
  have hr := run_make (P := P) w t e i z ht hi hz .i64 .i64 0 n (by omega) (by omega) hb' (by omega)
  simp only [Int.toNat_natCast, hs, Nat.mul_one, hz1, Int.toNat_zero] at hr
  exact hr
structure RawMem (W : World) (B : Nat) (w : World) (bT ba bn c0 ka k : Nat) (A : Nat → Bool) (rb rl : Nat → Nat) (X : Nat → Nat → Int) : Prop where
  blw : Below (B + 1) W w
  blk : w.heap[bT]? = some (.cells #[.slice (some ⟨ba, 0, none⟩) ka c0, .slice (some ⟨bn, 0, none⟩) k c0] 41 (0, 0))
  acc : RowTo w ba 4 c0 (fun i => .bool (A i))
  nxt : RowTo w bn 24 c0 (fun i => if i < k then .slice (some ⟨rb i, 0, none⟩) (rl i) 10 else .slice none 0 0)
  row : ∀ i, i < k → rl i ≤ 8 ∧ B + 1 ≤ rb i ∧ RowTo w (rb i) 3 10 (fun c => .int .i64 (X i c))
  lT : B + 1 ≤ bT
  la : B + 1 ≤ ba
  ln : B + 1 ≤ bn
  dis : ∀ i j, i < j → j < k → rb i ≠ rb j
theorem RawMem.start {W w : World} {B bT ba bn c0 : Nat} (hb : Below (B + 1) W w) (hT : w.heap[bT]? = some (.cells #[.slice (some ⟨ba, 0, none⟩) 0 c0, .slice (some ⟨bn, 0, none⟩) 0 c0] 41 (0, 0)))
    (hA : w.heap[ba]? = some (.cells (madeCells #[.bool false] c0) 4 (0, 0))) (hN : w.heap[bn]? = some (.cells (madeCells #[.slice none 0 0] c0) 24 (0, 0))) (h1 : B + 1 ≤ ba) (h2 : B + 1 ≤ bn) (h3 : B + 1 ≤ bT) :
    RawMem W B w bT ba bn c0 0 0 (fun _ => false) (fun _ => 0) (fun _ => 0) (fun _ _ => 0) :=
  ⟨hb, hT, RowTo.ofRow (madeCells_rowIs hA), (RowTo.ofRow (madeCells_rowIs hN)).congr (fun i _ => by simp), fun i hi => absurd hi (by omega), h3, h1, h2, fun i j _ hj => absurd hj (by omega)⟩
section
variable {W w w2 : World} {B bT ba bn c0 ka k : Nat} {A : Nat → Bool} {rb rl : Nat → Nat} {X : Nat → Nat → Int}
theorem RawMem.below (h : RawMem W B w bT ba bn c0 ka k A rb rl X) (hb : Below w.heap.size w w2) : RawMem W B w2 bT ba bn c0 ka k A rb rl X :=
  ⟨h.blw.trans (hb.mono (by have := heap_lt h.blk; have := h.lT; omega)), by rw [hb.block _ (heap_lt h.blk)]; exact h.blk, h.acc.below hb, h.nxt.below hb, fun i hi => ⟨(h.row i hi).1, (h.row i hi).2.1, (h.row i hi).2.2.below hb⟩, h.lT, h.la, h.ln, h.dis⟩
theorem RawMem.drew (h : RawMem W B w bT ba bn c0 ka k A rb rl X) : RawMem W B w.drew bT ba bn c0 ka k A rb rl X := h.below ((Below.refl _ _).drew)
theorem RawMem.acc1 (h : RawMem W B w bT ba bn c0 ka k A rb rl X) (b : Bool) : RawMem W B ((w.setCell ⟨ba, ka, none⟩ (.bool b)).setCell ⟨bT, 0, none⟩ (.slice (some ⟨ba, 0, none⟩) (ka + 1) c0)) bT ba bn c0 (ka + 1) k (fun i => if i = ka then b else A i) rb rl X := by
  have e1 : bT ≠ ba := heap_ne h.blk h.acc (by decide)
  have e2 : bT ≠ bn := heap_ne h.blk h.nxt (by decide)
  have e3 : bn ≠ ba := h.nxt.ne h.acc (by decide)
  refine ⟨(h.blw.setCell (p := ⟨ba, ka, none⟩) h.la _).setCell (p := ⟨bT, 0, none⟩) h.lT _, two_set0 (heap_set_other h.blk e1), ?_, (h.nxt.setOther e3 _).setOther (fun e => e2 e.symm) _, fun i hi => ⟨(h.row i hi).1, (h.row i hi).2.1, ?_⟩, h.lT, h.la, h.ln, h.dis⟩
  · refine ((h.acc.set ka _).setOther (fun e => e1 e.symm) _).congr (fun i _ => ?_)
    by_cases e : i = ka <;> simp [e]
  · have r := (h.row i hi).2.2
    exact (r.setOther (r.ne h.acc (by decide)) _).setOther (fun e => (heap_ne h.blk r (by decide)) e.symm) _
theorem RawMem.other (h : RawMem W B w bT ba bn c0 ka k A rb rl X) {H n : Nat} {f : Nat → Value} (hr : RowTo w H 3 n f) (hH : B + 1 ≤ H) (hne : ∀ i, i < k → rb i ≠ H) (j : Nat) (v : Value) : RawMem W B (w.setCell ⟨H, j, none⟩ v) bT ba bn c0 ka k A rb rl X :=
  ⟨h.blw.setCell (p := ⟨H, j, none⟩) hH _, heap_set_other h.blk (heap_ne h.blk hr (by decide)), h.acc.setOther (h.acc.ne hr (by decide)) _, h.nxt.setOther (h.nxt.ne hr (by decide)) _, fun i hi => ⟨(h.row i hi).1, (h.row i hi).2.1, (h.row i hi).2.2.setOther (hne i hi) _⟩, h.lT, h.la, h.ln, h.dis⟩
theorem RawMem.nxt1 (h : RawMem W B w bT ba bn c0 ka k A rb rl X) {H m : Nat} {Y : Nat → Int} (hr : RowTo w H 3 10 (fun c => .int .i64 (Y c))) (hm : m ≤ 8) (hH : B + 1 ≤ H) (hne : ∀ i, i < k → rb i ≠ H) :
    RawMem W B ((w.setCell ⟨bn, k, none⟩ (.slice (some ⟨H, 0, none⟩) m 10)).setCell ⟨bT, 1, none⟩ (.slice (some ⟨bn, 0, none⟩) (k + 1) c0)) bT ba bn c0 ka (k + 1) A (fun i => if i = k then H else rb i) (fun i => if i = k then m else rl i) (fun i => if i = k then Y else X i) := by
  have e1 : bT ≠ ba := heap_ne h.blk h.acc (by decide)
  have e2 : bT ≠ bn := heap_ne h.blk h.nxt (by decide)
  have e3 : ba ≠ bn := h.acc.ne h.nxt (by decide)
  refine ⟨(h.blw.setCell (p := ⟨bn, k, none⟩) h.ln _).setCell (p := ⟨bT, 1, none⟩) h.lT _, two_set1 (heap_set_other h.blk e2), (h.acc.setOther e3 _).setOther (fun e => e1 e.symm) _, ?_, fun i hi => ?_, h.lT, h.la, h.ln, fun i j hij hj => ?_⟩
  · refine ((h.nxt.set k _).setOther (fun e => e2 e.symm) _).congr (fun i _ => ?_)
    by_cases e : i = k
    · simp [e]
    · simp only [if_neg e]
      by_cases h' : i < k
      · rw [if_pos h', if_pos (by omega)]
      · rw [if_neg h', if_neg (by omega)]
  · by_cases e : i = k
    · subst e
      simp only [if_true]
      exact ⟨hm, hH, (hr.setOther (hr.ne h.nxt (by decide)) _).setOther (fun e => (heap_ne h.blk hr (by decide)) e.symm) _⟩
    · simp only [if_neg e]
      have r := h.row i (by omega)
      exact ⟨r.1, r.2.1, (r.2.2.setOther (r.2.2.ne h.nxt (by decide)) _).setOther (fun e => (heap_ne h.blk r.2.2 (by decide)) e.symm) _⟩
  · by_cases e : j = k
    · subst e
      simp only [if_true, if_neg (show i ≠ j by omega)]
      exact hne i (by omega)
    · simp only [if_neg e, if_neg (show i ≠ k by omega)]
      exact h.dis i j hij (by omega)
end
structure RawFin (W : World) (B : Nat) (w : World) (bT ba bn c0 na k : Nat) (A : Nat → Bool) (rb rl : Nat → Nat) (X : Nat → Nat → Int) : Prop where
  blw : Below (B + 1) W w
  blk : w.heap[bT]? = some (.cells #[.slice (some ⟨ba, 0, none⟩) na c0, .slice (some ⟨bn, 0, none⟩) k c0] 41 (0, 0))
  acc : RowTo w ba 4 c0 (fun i => .bool (A i))
  nxt : RowTo w bn 24 c0 (fun i => if i < k then .slice (some ⟨rb i, 0, none⟩) (rl i) 10 else .slice none 0 0)
  row : ∀ i, i < k → rl i ≤ 10 ∧ B + 1 ≤ rb i ∧ RowTo w (rb i) 3 10 (fun c => .int .i64 (X i c))
  lT : B + 1 ≤ bT
  la : B + 1 ≤ ba
  ln : B + 1 ≤ bn
  dis : ∀ i j, i < j → j < k → rb i ≠ rb j
section
variable {W w w2 : World} {B bT ba bn c0 ka k na : Nat} {A : Nat → Bool} {rb rl : Nat → Nat} {X : Nat → Nat → Int}
theorem RawMem.fin (h : RawMem W B w bT ba bn c0 ka k A rb rl X) : RawFin W B w bT ba bn c0 ka k A rb rl X :=
  ⟨h.blw, h.blk, h.acc, h.nxt, fun i hi => ⟨by have := (h.row i hi).1; omega, (h.row i hi).2⟩, h.lT, h.la, h.ln, h.dis⟩
theorem RawFin.below (h : RawFin W B w bT ba bn c0 na k A rb rl X) (hb : Below w.heap.size w w2) : RawFin W B w2 bT ba bn c0 na k A rb rl X :=
  ⟨h.blw.trans (hb.mono (by have := heap_lt h.blk; have := h.lT; omega)), by rw [hb.block _ (heap_lt h.blk)]; exact h.blk, h.acc.below hb, h.nxt.below hb, fun i hi => ⟨(h.row i hi).1, (h.row i hi).2.1, (h.row i hi).2.2.below hb⟩, h.lT, h.la, h.ln, h.dis⟩
theorem RawFin.short (h : RawFin W B w bT ba bn c0 na k A rb rl X) (n : Nat) : RawFin W B (w.setCell ⟨bT, 0, none⟩ (.slice (some ⟨ba, 0, none⟩) n c0)) bT ba bn c0 n k A rb rl X := by
  have e1 : bT ≠ ba := heap_ne h.blk h.acc (by decide)
  have e2 : bT ≠ bn := heap_ne h.blk h.nxt (by decide)
  exact ⟨h.blw.setCell (p := ⟨bT, 0, none⟩) h.lT _, two_set0 h.blk, h.acc.setOther (fun e => e1 e.symm) _, h.nxt.setOther (fun e => e2 e.symm) _, fun i hi => ⟨(h.row i hi).1, (h.row i hi).2.1, (h.row i hi).2.2.setOther (fun e => (heap_ne h.blk (h.row i hi).2.2 (by decide)) e.symm) _⟩, h.lT, h.la, h.ln, h.dis⟩
theorem RawFin.long (h : RawFin W B w bT ba bn c0 na k A rb rl X) (q : Nat) (hq : q < k) (hl : rl q ≤ 9) :
    RawFin W B ((w.setCell ⟨rb q, rl q, none⟩ (.int .i64 0)).setCell ⟨bn, q, none⟩ (.slice (some ⟨rb q, 0, none⟩) (rl q + 1) 10)) bT ba bn c0 na k A rb (fun i => if i = q then rl q + 1 else rl i) (fun i => if i = q then (fun c => if c = rl q then 0 else X q c) else X i) := by
  have r := (h.row q hq).2.2
  have e1 : bT ≠ rb q := heap_ne h.blk r (by decide)
  have e2 : bT ≠ bn := heap_ne h.blk h.nxt (by decide)
  have e3 : ba ≠ rb q := h.acc.ne r (by decide)
  have e4 : ba ≠ bn := h.acc.ne h.nxt (by decide)
  have e5 : bn ≠ rb q := h.nxt.ne r (by decide)
  refine ⟨(h.blw.setCell (p := ⟨rb q, rl q, none⟩) (h.row q hq).2.1 _).setCell (p := ⟨bn, q, none⟩) h.ln _, heap_set_other (heap_set_other h.blk e1) e2, (h.acc.setOther e3 _).setOther e4 _, ?_, fun i hi => ?_, h.lT, h.la, h.ln, h.dis⟩
  · refine ((h.nxt.setOther e5 _).set q _).congr (fun i _ => ?_)
    by_cases e : i = q
    · subst e; simp [hq]
    · simp [e]
  · by_cases e : i = q
    · subst e
      simp only [if_true]
      refine ⟨by omega, (h.row i hq).2.1, ((r.set (rl i) _).setOther (fun e => e5 e.symm) _).congr (fun c _ => ?_)⟩
      by_cases e : c = rl i <;> simp [e]
    · simp only [if_neg e]
      have ri := h.row i hi
      refine ⟨ri.1, ri.2.1, (ri.2.2.setOther ?_ _).setOther (ri.2.2.ne h.nxt (by decide)) _⟩
      rcases Nat.lt_or_gt_of_ne e with h' | h'
      · exact h.dis i q h' hq
      · exact fun e' => h.dis q i h' hi e'.symm
theorem RawFin.done (h : RawFin W B w bT ba bn c0 na k A rb rl X) (h1 : na ≤ c0) (h2 : k ≤ c0) (h3 : 1 ≤ c0) (h4 : c0 ≤ 4398046511104) (u v : Value) :
    TLAt ((w.setCell ⟨B, 0, none⟩ u).setCell ⟨B, 1, none⟩ v) ⟨ba, na, c0, bn, k, c0, rb, fun i => if i < k then rl i else 0, fun i => if i < k then 10 else 0⟩ A X ∧
      B ≤ ba ∧ B ≤ bn ∧ (∀ j, j < c0 → 0 < (if j < k then 10 else 0) → B ≤ rb j) ∧ (∀ i j, i < j → j < c0 → 0 < (if i < k then 10 else 0) → 0 < (if j < k then 10 else 0) → rb i ≠ rb j) := by
  have la := h.la
  have ln := h.ln
  refine ⟨⟨h1, h4, h3, h2, h4, h3, fun i hi => ?_, fun i hi => ?_, (h.acc.setOther (by simp; omega) _).setOther (by simp; omega) _, ?_, fun i hi hc => ?_⟩, by omega, by omega, fun j hj hc => ?_, fun i j hij hj hi' hj' => ?_⟩
  · show (if i < k then rl i else 0) ≤ (if i < k then 10 else 0)
    by_cases e : i < k
    · rw [if_pos e, if_pos e]; exact (h.row i e).1
    · rw [if_neg e, if_neg e]; omega
  · show (if i < k then 10 else 0) ≤ 1000000
    split <;> omega
  · refine ((h.nxt.setOther (by simp; omega) _).setOther (by simp; omega) _).congr (fun i _ => ?_)
    unfold tlv
    by_cases e : i < k
    · simp [e]
    · simp [e]
  · have e : i < k := by
      by_cases e : i < k
      · exact e
      · simp [e] at hc
    have r := h.row i e
    show RowTo _ (rb i) _ (if i < k then 10 else 0) _
    rw [if_pos e]
    exact (r.2.2.setOther (by have := r.2.1; simp; omega) _).setOther (by have := r.2.1; simp; omega) _
  · have e : j < k := by
      by_cases e : j < k
      · exact e
      · simp [e] at hc
    have := (h.row j e).2.1; omega
  · have e : j < k := by
      by_cases e : j < k
      · exact e
      · simp [e] at hj'
    exact h.dis i j hij e
end
theorem wpList_append_in {P : Program} (w : World) {ops : Array Oper} {rest : List Oper} {o : Oper} {a : Act} {Q : Exit → Act → World → Prop} (hgd : o.guard = none) (s x : Operand) (t : TypeId)
    (ho : o.op = .call { callee := .builtin .append, args := #[s, x], argTypes := #[t, t] })
    (e : TypeId) (i : TypeInfo) (ht : P.underlying t = some (.slice e)) (hi : P.info? e = some i) (hsize : i.size = 1)
    (g n cap : Nat) (f : Nat → Value) (hs : a.eval s = .slice (some ⟨g, 0, none⟩) n cap) (hr : RowTo w g e cap f) (b : Nat) (v : Value) (hx : a.eval x = .slice (some ⟨b, 0, none⟩) 1 1) (hv : w.cell? ⟨b, 0, none⟩ = some v) (h1 : v.oneCell' = true)
    (hroom : n < cap) (h : wpList P ops Q rest (a.put o.dst (.slice (some ⟨g, 0, none⟩) (n + 1) cap)) (w.setCell ⟨g, n, none⟩ v)) : wpList P ops Q (o :: rest) a w := by
  have hsrc : Src P i.size t (.slice (some ⟨b, 0, none⟩) 1 1) 1 [v] w := Src.ofSlice w ht ⟨b, 0, none⟩ 1 1 [v] (by rw [hsize]; rfl) (fun j u hu => by
    have hj : j = 0 := by have := (List.getElem?_eq_some_iff.1 hu).1; simpa using this
    subst hj
    have : (⟨b, 0, none⟩ : Addr).add 0 = ⟨b, 0, none⟩ := by simp [Addr.add]
    rw [this]; simpa [hv] using hu) (by intro u hu; simp at hu; subst hu; exact h1)
  refine wpList_append_room_src w hgd s x t t ho e i ht hi g 0 n cap hs _ hx 1 [v] hsrc (by omega) ?_ ?_ ?_
  · intro j hj
    have : j = 0 := by simpa using hj
    subst this
    rw [hsize, Nat.zero_add, Nat.mul_one, Nat.add_zero, hr.cell hroom]; rfl
  · intro j hj
    rw [hsize, Nat.zero_add, Nat.mul_one]; exact hr.frozen _
  · rw [hsize, Nat.zero_add, Nat.mul_one]; exact h
theorem step_append_in {P : Program} {ops : Array Oper} {o : Oper} {a : Act} {w : World} {K : Act → World → Prop} {Q : Exit → Act → World → Prop} {E : Prop} (hgd : o.guard = none) (s x : Operand) (t : TypeId)
    (ho : o.op = .call { callee := .builtin .append, args := #[s, x], argTypes := #[t, t] })
    (e : TypeId) (i : TypeInfo) (ht : P.underlying t = some (.slice e)) (hi : P.info? e = some i) (hsize : i.size = 1)
    (g n cap : Nat) (f : Nat → Value) (hs : a.eval s = .slice (some ⟨g, 0, none⟩) n cap) (hr : RowTo w g e cap f) (b : Nat) (v : Value) (hx : a.eval x = .slice (some ⟨b, 0, none⟩) 1 1) (hv : w.cell? ⟨b, 0, none⟩ = some v) (h1 : v.oneCell' = true)
    (hroom : n < cap) (h : K (a.put o.dst (.slice (some ⟨g, 0, none⟩) (n + 1) cap)) (w.setCell ⟨g, n, none⟩ v)) :
    if Region.wanted o (yielded ops a.tmps) = true then Oper.wp P o a w K Q else E := by
  refine step_append_room hgd s x t ho e i 1 ht hi hsize g 0 n cap hs ⟨b, 0, none⟩ 1 1 [v] hx rfl (fun j u hu => ?_) (by intro u hu; simp at hu; subst hu; exact h1) (by omega) (fun j hj => ?_) ?_
  · have hj : j = 0 := by have := (List.getElem?_eq_some_iff.1 hu).1; simpa using this
    subst hj
    have : (⟨b, 0, none⟩ : Addr).add 0 = ⟨b, 0, none⟩ := by simp [Addr.add]
    rw [this]; simpa [hv] using hu
  · have : j = 0 := by simpa using hj
    subst this
    rw [Nat.zero_add, Nat.mul_one, Nat.add_zero, hr.cell hroom]
    exact ⟨rfl, hr.frozen _⟩
  · rw [Nat.zero_add, Nat.mul_one]; exact h
theorem cell_one {w : World} {b : Nat} {x : Value} {t : TypeId} (h : w.heap[b]? = some (.cells #[x] t (0, 0))) : w.cell? ⟨b, 0, none⟩ = some x := by simp [World.cell?, h]
theorem wrapk (k : Nat) (h : k ≤ 4398046511104) : IntKind.i64.wrap (k : Int) = (k : Int) := by rw [IntKind.wrap_i64]; omega
def RawPost (w : World) (e : Ending) (w' : World) : Prop :=
  Below w.heap.size w w' ∧ ∃ (t : TL) (A : Nat → Bool) (X : Nat → Nat → Int), e = .returned (.agg #[.slice (some ⟨t.ba, 0, none⟩) t.na t.ca, .slice (some ⟨t.bn, 0, none⟩) t.nn t.cn]) ∧ TLAt w' t A X ∧
    w.heap.size ≤ t.ba ∧ w.heap.size ≤ t.bn ∧ (∀ j, j < t.cn → 0 < t.rc j → w.heap.size ≤ t.rb j) ∧ (∀ i j, i < j → j < t.cn → 0 < t.rc i → 0 < t.rc j → t.rb i ≠ t.rb j)
set_option maxRecDepth 20000 in
set_option maxHeartbeats 4000000 in
theorem raw_mk (ao : Option Addr) (len cap : Nat) (z : Nat → Int) (less : Int) (w : World) (h : LCode w ao len z) :
    Calls Tryz.prog 15 #[.slice ao len cap, .int .i64 less] w
      (RawPost w) := by
  have hln := h.ln
  obtain ⟨c0, HC0⟩ : ∃ x, Hid (len / 9 + 2 = x) := ⟨_, rfl⟩
  have hd9 : ((c0 : Nat) : Int) = (len : Int) / 9 + 2 := by rw [← HC0.out]; omega
  have hc0 : c0 ≤ 4398046511104 := by rw [← HC0.out]; omega
  have mk1 := run_make0 (P := Tryz.prog) 38 4 (.bool false) 1 Tryz.underlying38 Tryz.info4 rfl c0 (by omega) (by omega)
  have mk2 := run_make0 (P := Tryz.prog) 39 24 (.slice none 0 0) 24 Tryz.underlying39 Tryz.infoI rfl c0 (by omega) (by omega)
  rw [hd9] at mk1 mk2
  obtain ⟨W, hW⟩ : ∃ W, W = w.alloc (.cells #[.slice none 0 0, .slice none 0 0] 41) := ⟨_, rfl⟩
  have BW : Below w.heap.size w W := by rw [hW]; exact (Below.refl _ _).alloc (Nat.le_refl _) _
  have hWs : W.heap.size = w.heap.size + 1 := by rw [hW]; simp
  have b0 : W.heap[w.heap.size]? = some (.cells #[.slice none 0 0, .slice none 0 0] 41 (0, 0)) := by rw [hW]; exact heap_at_new (by simp)
  go_enter Tryz.func15, Tryz.ntmps15
  go_upto_region 1 with fail
  rw [← hW]
  clear hW
  go_cut [5] (fun p wc => ∃ ba bn bT : Nat, p = .pointer (some ⟨bT, 0, none⟩) ∧ RawMem W w.heap.size wc bT ba bn c0 0 0 (fun _ => false) (fun _ => 0) (fun _ => 0) (fun _ _ => 0))
  case first =>
    go_region
    all_goals go_wp2_with fail
    all_goals go_meet
    all_goals first | (refine ⟨w.heap.size + 1, w.heap.size + 1 + 1, w.heap.size + 1 + 1 + 1, rfl, RawMem.drew (RawMem.start ?_ ?_ ?_ ?_ ?_ ?_ ?_)⟩ <;> (first | omega | exact (((Below.refl _ _).alloc (by omega) _).alloc (by simp; omega) _).alloc (by simp; omega) _ | exact heap_at_new (by simp [hWs]) | exact heap_at_old (heap_at_new (by simp [hWs])) | exact heap_at_old (heap_at_old (heap_at_new (by simp [hWs])))); done) | (refine ⟨w.heap.size + 1, w.heap.size + 1 + 1 + 1, w.heap.size + 1 + 1, rfl, RawMem.drew (RawMem.start ?_ ?_ ?_ ?_ ?_ ?_ ?_)⟩ <;> (first | omega | exact (((Below.refl _ _).alloc (by omega) _).alloc (by simp; omega) _).alloc (by simp; omega) _ | exact heap_at_new (by simp [hWs]) | exact heap_at_old (heap_at_new (by simp [hWs])) | exact heap_at_old (heap_at_old (heap_at_new (by simp [hWs])))); done) | (refine ⟨w.heap.size + 1 + 1, w.heap.size + 1, w.heap.size + 1 + 1 + 1, rfl, RawMem.drew (RawMem.start ?_ ?_ ?_ ?_ ?_ ?_ ?_)⟩ <;> (first | omega | exact (((Below.refl _ _).alloc (by omega) _).alloc (by simp; omega) _).alloc (by simp; omega) _ | exact heap_at_new (by simp [hWs]) | exact heap_at_old (heap_at_new (by simp [hWs])) | exact heap_at_old (heap_at_old (heap_at_new (by simp [hWs])))); done) | (refine ⟨w.heap.size + 1 + 1, w.heap.size + 1 + 1 + 1, w.heap.size + 1, rfl, RawMem.drew (RawMem.start ?_ ?_ ?_ ?_ ?_ ?_ ?_)⟩ <;> (first | omega | exact (((Below.refl _ _).alloc (by omega) _).alloc (by simp; omega) _).alloc (by simp; omega) _ | exact heap_at_new (by simp [hWs]) | exact heap_at_old (heap_at_new (by simp [hWs])) | exact heap_at_old (heap_at_old (heap_at_new (by simp [hWs])))); done) | (refine ⟨w.heap.size + 1 + 1 + 1, w.heap.size + 1, w.heap.size + 1 + 1, rfl, RawMem.drew (RawMem.start ?_ ?_ ?_ ?_ ?_ ?_ ?_)⟩ <;> (first | omega | exact (((Below.refl _ _).alloc (by omega) _).alloc (by simp; omega) _).alloc (by simp; omega) _ | exact heap_at_new (by simp [hWs]) | exact heap_at_old (heap_at_new (by simp [hWs])) | exact heap_at_old (heap_at_old (heap_at_new (by simp [hWs])))); done) | (refine ⟨w.heap.size + 1 + 1 + 1, w.heap.size + 1 + 1, w.heap.size + 1, rfl, RawMem.drew (RawMem.start ?_ ?_ ?_ ?_ ?_ ?_ ?_)⟩ <;> (first | omega | exact (((Below.refl _ _).alloc (by omega) _).alloc (by simp; omega) _).alloc (by simp; omega) _ | exact heap_at_new (by simp [hWs]) | exact heap_at_old (heap_at_new (by simp [hWs])) | exact heap_at_old (heap_at_old (heap_at_new (by simp [hWs])))); done)
  case rest =>
    obtain ⟨ba, bn, bT, rfl, hP0⟩ := hcut
    clear mk1 mk2
    have hc0' : len / 9 + 2 = c0 := HC0.out
    obtain ⟨i3, hi3, hz3, hz31, hz32⟩ := info_parts Tryz.info3
    obtain ⟨i4, hi4, hz4, hz41, hz42⟩ := info_parts Tryz.info4
    obtain ⟨i0, hi0, hz0, hz01, hz02⟩ := info_parts Tryz.infoI
    have mk3 := run_make0 (P := Tryz.prog) 24 3 (.int .i64 0) 8 Tryz.underlying24 Tryz.info3 rfl 10 (by omega) (by omega)
    simp only [show ((10 : Nat) : Int) = 10 from rfl] at mk3
    go_wp2_with fail
    go_loopw [6, 7, 8] (fun i' _ _ wr => ∃ (k : Nat) (A : Nat → Bool) (rb rl : Nat → Nat) (X : Nat → Nat → Int), 9 * k ≤ len + 8 ∧ i' = .int .i64 (9 * (k : Int)) ∧ RawMem W w.heap.size wr bT ba bn c0 k k A rb rl X)
      (fun i' _ _ _ => len + 9 - (intOf i').toNat)
    case atStart => exact ⟨0, _, _, _, _, by omega, rfl, hP0⟩
    case round =>
      obtain ⟨k, A, rb, rl, X, hk, rfl, hP⟩ := hrel
      clear hP0
      by_cases hlt : 9 * k < len
      · have HP : Hid _ := hP
        have hsz := heap_lt hP.blk
        have hlT := hP.lT
        clear hP
        have hlti : (9 * (k : Int)) < (len : Int) := by omega
        have hwo : Below w.heap.size w wr := BW.trans (HP.out.blw.mono (by omega))
        go_wp2_with fail
        clear mk3
        rename World => wo
        have hP1 : RawMem W w.heap.size (wo.alloc (.cells (madeCells #[.int .i64 0] 10) 3)) bT ba bn c0 k k A rb rl X := HP.out.below ((Below.refl _ _).alloc (Nat.le_refl _) _)
        have hR1 : RowTo (wo.alloc (.cells (madeCells #[.int .i64 0] 10) 3)) wo.heap.size 3 10 (fun c => .int .i64 ((fun _ => 0 : Nat → Int) c)) := RowTo.ofRow (madeCells_rowIs (heap_at_new rfl))
        go_loopw [7, 8] (fun vr kk wi => ∃ (m : Nat) (Y : Nat → Int), m ≤ 8 ∧ kk = .int .i64 (9 * (k : Int) + 1 + m) ∧ vr = .slice (some ⟨wo.heap.size, 0, none⟩) m 10 ∧ RawMem W w.heap.size wi bT ba bn c0 k k A rb rl X ∧ RowTo wi wo.heap.size 3 10 (fun c => .int .i64 (Y c)))
          (fun _ kk _ => 9 * k + 9 - (intOf kk).toNat)
        case atStart => exact ⟨0, _, by omega, by go_num, rfl, hP1, hR1⟩
        case round =>
          obtain ⟨m, Y, hm, rfl, rfl, hPm, hRm⟩ := hrel
          clear hP1 hR1
          by_cases hgo : m < 8 ∧ 9 * k + 1 + m < len
          · obtain ⟨hm8, hml⟩ := hgo
            have t1 : 9 * (k : Int) + 1 + (m : Int) < 9 * (k : Int) + 9 := by omega
            have t2 : 9 * (k : Int) + 1 + (m : Int) < (len : Int) := by omega
            have hbw : Below w.heap.size w wr := BW.trans (hPm.blw.mono (by omega))
            obtain ⟨bl, ol, rfl, hcl⟩ := (h.below hbw).cell (9 * k + 1 + m) hml
            have tn : (9 * (k : Int) + 1 + (m : Int)).toNat = 9 * k + 1 + m := by omega
            have HPm : Hid _ := hPm
            have HRm : Hid (RowTo wr wo.heap.size 3 10 (fun c => .int .i64 (Y c))) := hRm
            have hra : RowTo (wr.alloc (.cells #[.int .i64 (z (9 * k + 1 + m))] 3)) wo.heap.size 3 10 (fun c => .int .i64 (Y c)) := hRm.alloc _
            have hso := hRm.lt
            clear hPm hRm hbw
            go_wp2_with (at_builtin; refine wpList_append_in _ rfl _ _ 24 rfl 3 i3 Tryz.underlying24 hi3 hz31 wo.heap.size m 10 (fun c => .int .i64 (Y c)) rfl hra wr.heap.size (.int .i64 (z (9 * k + 1 + m))) rfl (cell_one (heap_at_new rfl)) rfl (by omega) ?_)
            go_roundw
            case rel =>
              refine ⟨m + 1, fun c => if c = m then z (9 * k + 1 + m) else Y c, by omega, by go_num, rfl, (HPm.out.other HRm.out (by omega) (fun i hi => ?_) _ _).below ((Below.refl _ _).alloc (Nat.le_refl _) _), ((HRm.out.set m _).alloc _).congr (fun c _ => ?_)⟩
              · have := (HP.out.row i hi).2.2.lt; omega
              · by_cases e : c = m <;> simp [e]
            case measure => simp [intOf]; omega
          · have hbw : Below w.heap.size w wr := BW.trans (hPm.blw.mono (by omega))
            obtain ⟨bl, ol, rfl, hcl⟩ := (h.below hbw).cell (9 * k) hlt
            have tn : (9 * (k : Int)).toNat = 9 * k := by omega
            have t0 : 0 ≤ 9 * (k : Int) := by omega
            have hkc : k < c0 := by omega
            have HPm : Hid _ := hPm
            have HRm : Hid (RowTo wr wo.heap.size 3 10 (fun c => .int .i64 (Y c))) := hRm
            obtain ⟨y0, y1, z0, z1⟩ := cell_two hPm.blk
            have hTs := heap_lt hPm.blk
            have hro := hRm.lt
            have e1 : ¬ bT = ba := heap_ne hPm.blk hPm.acc (by decide)
            have e1' : ¬ ba = bT := fun e => e1 e.symm
            have e2 : ¬ bT = bn := heap_ne hPm.blk hPm.nxt (by decide)
            obtain ⟨zk, HZK⟩ : ∃ x, Hid (z (9 * k) = x) := ⟨_, rfl⟩
            rw [HZK.out] at hcl
            clear hPm hRm hbw
            have HRA : Hid (RowTo ((wr.alloc (.cells #[.bool (zk.tmod 2 != 0)] 4)).drew) ba 4 c0 (fun i => .bool (A i))) := (HPm.out.acc.alloc _).drew
            have HHa : Hid (wo.heap.size ≠ ba) := HRm.out.ne HPm.out.acc (by decide)
            have HHT : Hid (wo.heap.size ≠ bT) := fun e => heap_ne HPm.out.blk HRm.out (by decide) e.symm
            go_upto_region 7 with fail
            go_cut [39] (fun v wc => v = .bool false ∧ wc = wr)
            case first =>
              by_cases hm8 : m < 8
              · have t1 : 9 * (k : Int) + 1 + (m : Int) < 9 * (k : Int) + 9 := by omega
                have t2 : ¬ (9 * (k : Int) + 1 + (m : Int) < (len : Int)) := by omega
                go_wp2_with fail
                go_meet
                exact ⟨rfl, rfl⟩
              · have t1 : ¬ (9 * (k : Int) + 1 + (m : Int) < 9 * (k : Int) + 9) := by omega
                go_wp2_with fail
                go_meet
                exact ⟨rfl, rfl⟩
            case rest =>
              obtain ⟨rfl, hwc⟩ := hcut
              obtain rfl : wr = wc := hwc.symm
              go_upto_region 10 with fail
              go_cut [58] (fun _ wc => ∃ A', Hid (RawMem W w.heap.size wc bT ba bn c0 (k + 1) k A' rb rl X ∧ RowTo wc wo.heap.size 3 10 (fun c => .int .i64 (Y c))))
              case first =>
                go_region_law
                  ((refine step_append_in (by rfl) _ _ 38 (by rfl) 4 i4 Tryz.underlying38 hi4 hz41 ba k c0 (fun i => .bool (A i)) (by rfl) HRA.out wr.heap.size (.bool (zk.tmod 2 != 0)) (by rfl) (cell_one (heap_at_new rfl)) rfl hkc ?_))
                all_goals go_wp2_with fail
                all_goals go_meet
                all_goals exact ⟨_, ((HPm.out.below ((Below.refl _ _).alloc (Nat.le_refl _) _)).acc1 (zk.tmod 2 != 0)).drew, ((((HRm.out.alloc _).setOther (a := ⟨ba, k, none⟩) HHa.out _).setOther (a := ⟨bT, 0, none⟩) HHT.out _).drew)⟩
              case rest =>
                obtain ⟨A', hcut⟩ := hcut
                have HQ : Hid _ := hcut.out.1
                have HRm2 : Hid (RowTo wc wo.heap.size 3 10 (fun c => .int .i64 (Y c))) := hcut.out.2
                clear hcut HPm HRm y0 y1 z0 z1 hcl HRA
                obtain ⟨y0, y1, z0, z1⟩ := cell_two HQ.out.blk
                have hTs2 := heap_lt HQ.out.blk
                have hnxa := HQ.out.nxt.alloc (.cells #[.slice (some ⟨wo.heap.size, 0, none⟩) m 10] 24)
                go_wp2_with (at_builtin; refine wpList_append_in _ rfl _ _ 39 rfl 24 i0 Tryz.underlying39 hi0 hz01 bn k c0 _ rfl hnxa wc.heap.size (.slice (some ⟨wo.heap.size, 0, none⟩) m 10) rfl (cell_one (heap_at_new rfl)) rfl hkc ?_)
                go_roundw
                case rel =>
                  refine ⟨k + 1, A', _, _, _, by omega, by go_num, (HQ.out.below ((Below.refl _ _).alloc (Nat.le_refl _) _)).nxt1 (HRm2.out.alloc _) hm (by omega) (fun i hi => ?_)⟩
                  have := (HP.out.row i hi).2.2.lt; omega
                case measure => simp [intOf]; omega
      · have hq : wr.heap[w.heap.size]? = some (.cells #[.slice none 0 0, .slice none 0 0] 41 (0, 0)) := (hP.blw.block _ (by omega)).trans b0
        obtain ⟨q0, q1, p0, p1⟩ := cell_two hq
        have hlT := hP.lT
        have hTs := heap_lt hP.blk
        have hbw : Below w.heap.size w wr := BW.trans (hP.blw.mono (by omega))
        have hkc : k ≤ c0 := by omega
        obtain ⟨y0, y1, z0, z1⟩ := cell_two hP.blk
        have HP : Hid _ := hP
        have hlti : ¬ (9 * (k : Int)) < (len : Int) := by omega
        have hbB : ¬ w.heap.size = bT := by omega
        have hbB' : ¬ bT = w.heap.size := by omega
        have HF : ∀ (w' : World) (na : Nat) (A' : Nat → Bool) (rl' : Nat → Nat) (X' : Nat → Nat → Int), na ≤ c0 → RawFin W w.heap.size w' bT ba bn c0 na k A' rb rl' X' → Hid (RawPost w (.returned (.agg #[.slice (some ⟨ba, 0, none⟩) na c0, .slice (some ⟨bn, 0, none⟩) k c0])) ((w'.setCell ⟨w.heap.size, 0, none⟩ (.slice (some ⟨ba, 0, none⟩) na c0)).setCell ⟨w.heap.size, 1, none⟩ (.slice (some ⟨bn, 0, none⟩) k c0))) := by
          intro w' na A' rl' X' hna hf
          refine ⟨((BW.trans (hf.blw.mono (by omega))).setCell (p := ⟨w.heap.size, 0, none⟩) (Nat.le_refl _) _).setCell (p := ⟨w.heap.size, 1, none⟩) (Nat.le_refl _) _, ⟨ba, na, c0, bn, k, c0, rb, fun i => if i < k then rl' i else 0, fun i => if i < k then 10 else 0⟩, A', X', rfl, ?_⟩
          exact hf.done hna hkc (by omega) hc0 _ _
        clear hP h
        by_cases hl1 : 0 < less
        · by_cases hk0 : k = 0
          · subst hk0
            go_wp2_with fail
            obtain ⟨r1, r2, r3⟩ := res_two (u := .slice (some ⟨ba, 0, none⟩) 0 c0) (v := .slice (some ⟨bn, 0, none⟩) 0 c0) hq
            refine bodyPost_ret (v := .agg #[.slice (some ⟨ba, 0, none⟩) 0 c0, .slice (some ⟨bn, 0, none⟩) 0 c0]) (by simp [results, Tryz.results15, go_sem, r1, r2]) rfl ?_
            exact (HF wr 0 _ _ _ (by omega) HP.out.fin).out
          · obtain ⟨k', rfl⟩ : ∃ k', k = k' + 1 := ⟨k - 1, by omega⟩
            have tk : ((k' : Int) + 1 - 1) = k' := by omega
            have tk0 : (0 : Int) < (k' : Int) + 1 := by omega
            have hl2 : ¬ less < 0 := by omega
            go_wp2_with fail
            have hq2 : (wr.setCell ⟨bT, 0, none⟩ (.slice (some ⟨ba, 0, none⟩) k' c0)).heap[w.heap.size]? = some (.cells #[.slice none 0 0, .slice none 0 0] 41 (0, 0)) := heap_set_other hq hbB
            obtain ⟨r1, r2, r3⟩ := res_two (u := .slice (some ⟨ba, 0, none⟩) k' c0) (v := .slice (some ⟨bn, 0, none⟩) (k' + 1) c0) hq2
            refine bodyPost_ret (v := .agg #[.slice (some ⟨ba, 0, none⟩) k' c0, .slice (some ⟨bn, 0, none⟩) (k' + 1) c0]) (by simp [results, Tryz.results15, go_sem, r1, r2]) rfl ?_
            exact (HF _ k' _ _ _ (by omega) (HP.out.fin.short k')).out
        · by_cases hl2 : less < 0
          · by_cases hk0 : k = 0
            · subst hk0
              go_wp2_with fail
              obtain ⟨r1, r2, r3⟩ := res_two (u := .slice (some ⟨ba, 0, none⟩) 0 c0) (v := .slice (some ⟨bn, 0, none⟩) 0 c0) hq
              refine bodyPost_ret (v := .agg #[.slice (some ⟨ba, 0, none⟩) 0 c0, .slice (some ⟨bn, 0, none⟩) 0 c0]) (by simp [results, Tryz.results15, go_sem, r1, r2]) rfl ?_
              exact (HF wr 0 _ _ _ (by omega) HP.out.fin).out
            · obtain ⟨k', rfl⟩ : ∃ k', k = k' + 1 := ⟨k - 1, by omega⟩
              have tk : ((k' : Int) + 1 - 1) = k' := by omega
              have tk0 : (0 : Int) < (k' : Int) + 1 := by omega
              have hnk := HP.out.nxt.cell (show k' < c0 by omega)
              have hnf := HP.out.nxt.frozen k'
              rw [if_pos (show k' < k' + 1 by omega)] at hnk
              have hrow := HP.out.row k' (by omega)
              obtain ⟨rbk, HRB⟩ : ∃ x, Hid (rb k' = x) := ⟨_, rfl⟩
              obtain ⟨rlk, HRL⟩ : ∃ x, Hid (rl k' = x) := ⟨_, rfl⟩
              have hrl : rlk < 10 := by rw [← HRL.out]; have := hrow.1; omega
              rw [HRB.out, HRL.out] at hnk
              have HRR : Hid (RowTo ((wr.alloc (.cells #[.int .i64 0] 3)).drew) rbk 3 10 (fun c => .int .i64 (X k' c))) := by rw [← HRB.out]; exact (hrow.2.2.alloc _).drew
              have d1 : ¬ bn = rbk := by rw [← HRB.out]; exact HP.out.nxt.ne hrow.2.2 (by decide)
              have d2 : ¬ bT = rbk := by rw [← HRB.out]; exact heap_ne HP.out.blk hrow.2.2 (by decide)
              have hnb : bn < wr.heap.size := HP.out.nxt.lt
              have hwk := wrapk k' (by omega)
              have hki : (k' : Int) < (k' : Int) + 1 := by omega
              have HBR : Hid (w.heap.size ≠ rb k') := by have := hrow.2.1; unfold Hid; omega
              have HBN : Hid (w.heap.size ≠ bn) := by have := HP.out.ln; unfold Hid; omega
              clear hrow
              go_upto_region 16 with fail
              go_cut [98] (fun _ wc => ∃ A' rl' X', Hid (RawFin W w.heap.size wc bT ba bn c0 (k' + 1) (k' + 1) A' rb rl' X') ∧ wc.heap[w.heap.size]? = some (.cells #[.slice none 0 0, .slice none 0 0] 41 (0, 0)))
              case first =>
                go_region_law
                  ((refine step_append_in (by rfl) _ _ 24 (by rfl) 3 i3 Tryz.underlying24 hi3 hz31 rbk rlk 10 (fun c => .int .i64 (X k' c)) (by rfl) HRR.out wr.heap.size (.int .i64 0) (by rfl) (cell_one (heap_at_new rfl)) rfl hrl ?_))
                all_goals go_wp2_with fail
                all_goals go_meet
                all_goals (rw [← HRB.out, ← HRL.out]; exact ⟨_, _, _, ((HP.out.fin.below ((Below.refl _ _).alloc (Nat.le_refl _) _)).long k' (by omega) (by rw [HRL.out]; omega)).below ((Below.refl _ _).drew), heap_set_other (heap_set_other (heap_at_old hq) HBR.out) HBN.out⟩)
              case rest =>
                obtain ⟨A', rl', X', hF, hq2⟩ := hcut
                clear y0 y1 z0 z1 q0 q1 p0 p1 hnk hnf HRR d1 d2 hnb
                obtain ⟨q0, q1, p0, p1⟩ := cell_two hq2
                obtain ⟨y0, y1, z0, z1⟩ := cell_two hF.out.blk
                have hTs2 := heap_lt hF.out.blk
                go_wp2_with fail
                obtain ⟨r1, r2, r3⟩ := res_two (u := .slice (some ⟨ba, 0, none⟩) (k' + 1) c0) (v := .slice (some ⟨bn, 0, none⟩) (k' + 1) c0) hq2
                refine bodyPost_ret (v := .agg #[.slice (some ⟨ba, 0, none⟩) (k' + 1) c0, .slice (some ⟨bn, 0, none⟩) (k' + 1) c0]) (by simp [results, Tryz.results15, go_sem, r1, r2]) rfl ?_
                exact (HF _ (k' + 1) _ _ _ (by omega) hF.out).out
          · have h0 : less = 0 := by omega
            subst h0
            go_wp2_with fail
            obtain ⟨r1, r2, r3⟩ := res_two (u := .slice (some ⟨ba, 0, none⟩) k c0) (v := .slice (some ⟨bn, 0, none⟩) k c0) hq
            refine bodyPost_ret (v := .agg #[.slice (some ⟨ba, 0, none⟩) k c0, .slice (some ⟨bn, 0, none⟩) k c0]) (by simp [results, Tryz.results15, go_sem, r1, r2]) rfl ?_
            exact (HF wr k _ _ _ (by omega) HP.out.fin).out
end Go.Proofs.YtpngikmcjkjdaaaGreatDoor
namespace Go.Proofs.YtpngikmcjkjdaaaGreatDoor
open Go.RowKit
set_option linter.unusedVariables false
def ptrs (hs : List Hd) : List Value := hs.map fun d => .pointer (some ⟨d.bh, 0, none⟩)
theorem ptrs_snoc (hs : List Hd) (d : Hd) : ptrs hs ++ [.pointer (some ⟨d.bh, 0, none⟩)] = ptrs (hs ++ [d]) := by simp [ptrs]
theorem ptrs_at (hs : List Hd) (i : Nat) (h : i < hs.length) : (ptrs hs)[i]? = some (.pointer (some ⟨hs[i].bh, 0, none⟩)) := by simp [ptrs, h]
structure Fw where
  wo : World
  vbs : Value
  vtx : Value
  fr : Nat → Option Obj
def Fw.plain (w : World) : Fw := ⟨w, .slice none 0 0, .slice none 0 0, fun _ => none⟩
structure WdAt (W0 : Fw) (w : World) (bw : Nat) (vts : Value) (hs : List Hd) : Prop where
  blw : Below bw W0.wo w
  blk : w.heap[bw]? = some (.cells #[vts, W0.vbs, W0.vtx] 31 (0, 0))
  own : w.ownsRow (bw + 1) 36 1 vts hs.length (ptrs hs)
  hds : ∀ d ∈ hs, HdAt w d
  lo : ∀ d ∈ hs, bw + 1 ≤ d.lo
  ord : hs.Pairwise (fun a b => a.hi ≤ b.lo)
  tsf : ∀ g, vts.ownBlock = some g → ∀ d ∈ hs, g < d.lo ∨ d.hi ≤ g
  frm : ∀ k o, W0.fr k = some o → w.heap[k]? = some o ∧ bw < k ∧ vts.ownBlock ≠ some k ∧ ∀ d ∈ hs, k < d.lo ∨ d.hi ≤ k
theorem WdAt.below {W0 : Fw} {w w' : World} {bw : Nat} {vts : Value} {hs : List Hd} (h : WdAt W0 w bw vts hs) (hb : Below w.heap.size w w') : WdAt W0 w' bw vts hs :=
  ⟨h.blw.trans (hb.mono (by have := heap_lt h.blk; omega)), by rw [hb.block _ (heap_lt h.blk)]; exact h.blk, ownsRow_below h.own hb, fun d hd => (h.hds d hd).below hb, h.lo, h.ord, h.tsf, fun k o hk => by
    obtain ⟨f1, f2, f3, f4⟩ := h.frm k o hk
    exact ⟨by rw [hb.block _ (heap_lt f1)]; exact f1, f2, f3, f4⟩⟩
theorem cell_three {w : World} {b : Nat} {x y z : Value} {t : TypeId} (h : w.heap[b]? = some (.cells #[x, y, z] t (0, 0))) : w.cell? ⟨b, 0, none⟩ = some x ∧ w.cell? ⟨b, 1, none⟩ = some y ∧ w.cell? ⟨b, 2, none⟩ = some z ∧ w.frozen? ⟨b, 0, none⟩ = false := by
  simp [World.cell?, World.frozen?, h]
theorem three_set0 {w : World} {b : Nat} {x y z u : Value} {t : TypeId} (h : w.heap[b]? = some (.cells #[x, y, z] t (0, 0))) : (w.setCell ⟨b, 0, none⟩ u).heap[b]? = some (.cells #[u, y, z] t (0, 0)) := by
  simp [World.setCell, Array.getElem?_modify, h]
theorem WdAt.add {W0 : Fw} {w w1 w2 : World} {bw : Nat} {vts : Value} {hs : List Hd} (h : WdAt W0 w bw vts hs) (hB : Below w.heap.size w w1) {d : Hd} (hd : HdAt w1 d) (hl : w.heap.size ≤ d.lo) {g cap : Nat}
    (hown : w2.ownsRow (bw + 1) 36 1 (.slice (some ⟨g, 0, none⟩) (hs.length + 1) cap) (hs.length + 1) (ptrs hs ++ [.pointer (some ⟨d.bh, 0, none⟩)])) {o : Obj} (hg : (w1.alloc o).grownBy w2 vts.ownBlock) (hf : vts.ownBlock = some g ∨ g = (w1.alloc o).heap.size) :
    w2.heap[bw]? = some (.cells #[vts, W0.vbs, W0.vtx] 31 (0, 0)) ∧ WdAt W0 (w2.setCell ⟨bw, 0, none⟩ (.slice (some ⟨g, 0, none⟩) (hs.length + 1) cap)) bw (.slice (some ⟨g, 0, none⟩) (hs.length + 1) cap) (hs ++ [d]) := by
  have h1 := (h.below hB).below ((Below.refl w1.heap.size w1).alloc (Nat.le_refl _) o)
  have hd1 := hd.below ((Below.refl w1.heap.size w1).alloc (Nat.le_refl _) o)
  have hs1 := heap_lt h1.blk
  have hlt := fun x e => h1.own.lt x e
  have hsz := hg.size
  have hs0 := heap_lt h.blk
  have hblk : w2.heap[bw]? = some (.cells #[vts, W0.vbs, W0.vtx] 31 (0, 0)) := by
    rw [hg.block _ hs1 (fun e => by have := (hlt _ e.symm).1; omega)]; exact h1.blk
  have hkeep : ∀ k : Nat, bw < k → k < (w1.alloc o).heap.size → vts.ownBlock ≠ some k → (w2.setCell ⟨bw, 0, none⟩ (.slice (some ⟨g, 0, none⟩) (hs.length + 1) cap)).heap[k]? = (w1.alloc o).heap[k]? := by
    intro k hk1 hk2 hne
    rw [Below.heap_setCell _ _ _ k (by simp; omega), hg.block k hk2 (fun e => hne e.symm)]
  have hws : w.heap.size ≤ w1.heap.size := hB.size
  have hold : ∀ e ∈ hs, e.hi ≤ w.heap.size := fun e he => (h.hds e he).siz
  have hvt : ∀ x, vts.ownBlock = some x → x < w.heap.size := fun x e => (h.own.lt x e).2
  refine ⟨hblk, (h1.blw.grown hg (by omega) (fun x e => by have := (hlt x e).1; omega)).setCell (p := ⟨bw, 0, none⟩) (Nat.le_refl _) _, three_set0 hblk, ?_, ?_, ?_, ?_, ?_, ?_⟩
  · rw [ptrs_snoc] at hown
    simp only [List.length_append, List.length_singleton]
    exact ownsRow_setCell_below hown (by simp) _
  · intro e he
    simp only [List.mem_append, List.mem_singleton] at he
    rcases he with he | rfl
    · refine (h1.hds e he).keep (fun k hk1 hk2 => hkeep k ?_ ?_ ?_) (by simpa using hsz)
      · have := h.lo e he; omega
      · have := hold e he; simp; omega
      · intro e'
        rcases h.tsf k e' e he with hh | hh <;> omega
    · refine hd1.keep (fun k hk1 hk2 => hkeep k ?_ ?_ ?_) (by simpa using hsz)
      · omega
      · have := hd.siz; simp; omega
      · intro e'; have := hvt k e'; omega
  · intro e he
    simp only [List.mem_append, List.mem_singleton] at he
    rcases he with he | rfl
    · exact h.lo e he
    · omega
  · rw [List.pairwise_append]
    refine ⟨h.ord, by simp, fun a ha b hb => ?_⟩
    simp only [List.mem_singleton] at hb
    subst hb
    have := hold a ha; omega
  · intro x hx e he
    simp only [Value.ownBlock, Option.some.injEq] at hx
    subst hx
    simp only [List.mem_append, List.mem_singleton] at he
    rcases hf with hf | hf
    · rcases he with he | rfl
      · exact h.tsf _ hf e he
      · left; have := hvt _ hf; omega
    · right
      rw [hf]
      rcases he with he | rfl
      · have := hold e he; simp; omega
      · have := hd.siz; simp; omega
  · intro k ob hk
    obtain ⟨f1, f2, f3, f4⟩ := h.frm k ob hk
    have hks := heap_lt f1
    refine ⟨?_, f2, ?_, ?_⟩
    · rw [hkeep k f2 (by simp; omega) f3]
      exact (h1.frm k ob hk).1
    · simp only [Value.ownBlock, ne_eq, Option.some.injEq]
      rcases hf with hf | hf
      · intro e; exact f3 (by rw [hf, e])
      · intro e; have : k < (w1.alloc o).heap.size := heap_lt (h1.frm k ob hk).1; omega
    · intro e he
      simp only [List.mem_append, List.mem_singleton] at he
      rcases he with he | rfl
      · exact f4 e he
      · left; omega
theorem WdAt.put {W0 : Fw} {w w1 : World} {bw : Nat} {vts : Value} {hs : List Hd} (h : WdAt W0 w bw vts hs) {i : Nat} (hi : i < hs.length) {A : Nat → Bool} {X : Nat → Nat → Int} (hd : HdAt w1 { hs[i] with A := A, X := X }) (ht : Touch (fun b => hs[i].lo ≤ b ∧ b < hs[i].hi) w w1) :
    WdAt W0 w1 bw vts (hs.set i { hs[i] with A := A, X := X }) := by
  have hm : hs[i] ∈ hs := List.getElem_mem hi
  have hlo := h.lo _ hm
  have hsz := heap_lt h.blk
  have hmem : ∀ e ∈ hs.set i { hs[i] with A := A, X := X }, ∃ e' ∈ hs, e.lo = e'.lo ∧ e.hi = e'.hi := by
    intro e he
    rcases List.mem_or_eq_of_mem_set he with he | rfl
    · exact ⟨e, he, rfl, rfl⟩
    · exact ⟨hs[i], hm, rfl, rfl⟩
  refine ⟨ht.below h.blw (by omega) (fun k hk => by omega), ht.heap h.blk (by omega), ?_, ?_, ?_, ?_, ?_, ?_⟩
  · have hp : ptrs (hs.set i { hs[i] with A := A, X := X }) = ptrs hs := by
      apply List.ext_getElem?
      intro j
      by_cases hj : j < hs.length
      · rw [ptrs_at hs j hj, ptrs_at _ j (by simpa using hj)]
        by_cases e : j = i
        · subst e; simp
        · rw [List.getElem_set_ne (fun e' => e e'.symm)]
      · rw [List.getElem?_eq_none (by simp [ptrs]; omega), List.getElem?_eq_none (by simp [ptrs]; omega)]
    rw [hp, List.length_set]
    refine ht.own h.own (fun g e hc => ?_)
    rcases h.tsf g e _ hm with hh | hh <;> omega
  · intro e he
    obtain ⟨j, hj, rfl⟩ := List.getElem_of_mem he
    have hj' : j < hs.length := by simpa using hj
    by_cases e : i = j
    · subst e; rw [List.getElem_set_self]; exact hd
    · rw [List.getElem_set_ne e]
      refine (h.hds _ (List.getElem_mem hj')).keep (fun k hk1 hk2 => ht.block k (Nat.lt_of_lt_of_le hk2 (h.hds _ (List.getElem_mem hj')).siz) (fun hc => ?_)) ht.size
      rcases Nat.lt_or_gt_of_ne e with hij | hij
      · have := List.pairwise_iff_getElem.1 h.ord i j hi hj' hij; omega
      · have := List.pairwise_iff_getElem.1 h.ord j i hj' hi hij; omega
  · intro e he
    obtain ⟨e', he', h1, h2⟩ := hmem e he
    have := h.lo e' he'; omega
  · rw [List.pairwise_iff_getElem]
    intro a b ha hb hab
    have ha' : a < hs.length := by simpa using ha
    have hb' : b < hs.length := by simpa using hb
    have := List.pairwise_iff_getElem.1 h.ord a b ha' hb' hab
    have e1 : (hs.set i { hs[i] with A := A, X := X })[a].hi = hs[a].hi := by
      by_cases e : i = a
      · subst e; rw [List.getElem_set_self]
      · rw [List.getElem_set_ne e]
    have e2 : (hs.set i { hs[i] with A := A, X := X })[b].lo = hs[b].lo := by
      by_cases e : i = b
      · subst e; rw [List.getElem_set_self]
      · rw [List.getElem_set_ne e]
    rw [e1, e2]; exact this
  · intro g e d hd'
    obtain ⟨e', he', h1, h2⟩ := hmem d hd'
    have := h.tsf g e e' he'
    omega
  · intro k o hk
    obtain ⟨f1, f2, f3, f4⟩ := h.frm k o hk
    refine ⟨ht.heap f1 (fun hc => ?_), f2, f3, ?_⟩
    · have := f4 _ hm; omega
    · intro e he
      obtain ⟨e', he', h1, h2⟩ := hmem e he
      have := f4 e' he'
      omega
end Go.Proofs.YtpngikmcjkjdaaaGreatDoor
