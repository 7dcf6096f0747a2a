import Derived.Test.YtpngikmcjkjdaabG4
import Derived.Test.YtpngikmcjkjdaabG5
set_option linter.unusedVariables false
set_option linter.unusedSimpArgs false
namespace Go.Proofs.Ytpngikmcjkjdaab
open Go.RowKit
set_option linter.unusedVariables false
theorem linkF_lt {beh : Nat → Nat} {L F n : Nat} (hF : F < 2048) (hb : ∀ i, i < n → beh i < 2048) (i : Nat) (hi : i < n) : linkF beh L F i < 2048 := by
  unfold linkF
  split
  · exact Nat.or_lt_two_pow (n := 11) (hb i hi) hF
  · exact hb i hi
theorem cell_three' {w : World} {b : Nat} {x y z : Value} {t : TypeId} (h : w.heap[b]? = some (.cells #[x, y, z] t (0, 0))) : w.cell? ⟨b, 0, none⟩ = some x ∧ w.cell? ⟨b, 1, none⟩ = some y ∧ w.cell? ⟨b, 2, none⟩ = some z ∧ w.frozen? ⟨b, 0, none⟩ = false ∧ w.frozen? ⟨b, 1, none⟩ = false ∧ w.frozen? ⟨b, 2, none⟩ = false := by
  simp [World.cell?, World.frozen?, h]
theorem fin_three {w w1 : World} {bm gb n cap : Nat} {beh rdr : Nat → Nat} (hM : MachAt w1 bm (.slice (some ⟨gb, 0, none⟩) n cap) n beh rdr) (hT : Touch (fun b => b = gb) w w1) (hbm : bm < w.heap.size) (hgb : gb < w.heap.size) {b : Nat} {x y z : Value} {t : TypeId} (hb : w.heap.size ≤ b)
    (hblk : w1.heap[b]? = some (.cells #[x, y, z] t (0, 0))) (u v s : Value) (o : Obj) :
    ((((w1.setCell ⟨b, 0, none⟩ u).setCell ⟨b, 1, none⟩ v).setCell ⟨b, 2, none⟩ s).alloc o).cell? ⟨b, 0, none⟩ = some u ∧ ((((w1.setCell ⟨b, 0, none⟩ u).setCell ⟨b, 1, none⟩ v).setCell ⟨b, 2, none⟩ s).alloc o).cell? ⟨b, 1, none⟩ = some v ∧ ((((w1.setCell ⟨b, 0, none⟩ u).setCell ⟨b, 1, none⟩ v).setCell ⟨b, 2, none⟩ s).alloc o).cell? ⟨b, 2, none⟩ = some s ∧
    MachAt ((((w1.setCell ⟨b, 0, none⟩ u).setCell ⟨b, 1, none⟩ v).setCell ⟨b, 2, none⟩ s).alloc o) bm (.slice (some ⟨gb, 0, none⟩) n cap) n beh rdr ∧ Touch (fun b => b = gb) w ((((w1.setCell ⟨b, 0, none⟩ u).setCell ⟨b, 1, none⟩ v).setCell ⟨b, 2, none⟩ s).alloc o) := by
  have h3 : (((w1.setCell ⟨b, 0, none⟩ u).setCell ⟨b, 1, none⟩ v).setCell ⟨b, 2, none⟩ s).heap[b]? = some (.cells #[u, v, s] t (0, 0)) := by
    simp [World.setCell, Array.getElem?_modify, hblk]
  obtain ⟨c0, c1, c2, _, _, _⟩ := cell_three' (heap_at_old (o := o) h3)
  have hown := fun g (e : (Value.slice (some (⟨gb, 0, none⟩ : Addr)) n cap).ownBlock = some g) => (show g ≠ b by simp only [Value.ownBlock, Option.some.injEq] at e; omega)
  refine ⟨c0, c1, c2, ⟨(((hM.blk.setOther (by simp; omega) _).setOther (by simp; omega) _).setOther (by simp; omega) _).alloc o, (ownsRow_set (ownsRow_set (ownsRow_set hM.own _ _ hown) _ _ hown) _ _ hown).alloc o, hM.lb, hM.lr⟩, (((hT.set _ _ (.inr hb)).set _ _ (.inr hb)).set _ _ (.inr hb)).alloc o⟩
set_option maxRecDepth 20000 in
set_option maxHeartbeats 2000000 in
theorem mchain_ok (bm gb n cap : Nat) (beh rdr : Nat → Nat) (e1 e2 : Bool) (F1 L1 F2 L2 : Nat) (w : World) (hn : n ≤ 11) (h : MachAt w bm (.slice (some ⟨gb, 0, none⟩) n cap) n beh rdr) (hF1 : F1 < 2048) (hL1 : L1 < 2048) (hF2 : F2 < 2048) (hL2 : L2 < 2048) :
    Calls Try.prog 72 #[.pointer (some ⟨bm, 0, none⟩), .agg #[.bool e1, .int .i64 F1, .int .i64 L1], .agg #[.bool e2, .int .i64 F2, .int .i64 L2]] w
      fun e w' => e = .returned (.agg #[.bool (e1 && e2), .int .i64 (((if e1 then F1 ||| F2 else F1) : Nat) : Int), .int .i64 (((if e2 then L2 ||| L1 else L2) : Nat) : Int)]) ∧ MachAt w' bm (.slice (some ⟨gb, 0, none⟩) n cap) n (linkF beh L1 F2) rdr ∧ Touch (fun b => b = gb) w w' := by
  obtain ⟨W, hW⟩ : ∃ W, W = ((w.alloc (.cells #[.bool e1, .int .i64 F1, .int .i64 L1] 118)).alloc (.cells #[.bool e2, .int .i64 F2, .int .i64 L2] 118)).alloc (.cells #[.bool false, .int .i64 0, .int .i64 0] 118) := ⟨_, rfl⟩
  have BW : Below w.heap.size w W := by
    rw [hW]; exact (((Below.refl _ _).alloc (Nat.le_refl _) _).alloc (by simp) _).alloc (by simp; omega) _
  have hWs : w.heap.size + 1 + 1 < W.heap.size := by rw [hW]; simp
  have b0 : W.heap[w.heap.size]? = some (.cells #[.bool e1, .int .i64 F1, .int .i64 L1] 118 (0, 0)) := by rw [hW]; exact heap_at_old (heap_at_old (heap_at_new (by simp)))
  have b1 : W.heap[w.heap.size + 1]? = some (.cells #[.bool e2, .int .i64 F2, .int .i64 L2] 118 (0, 0)) := by rw [hW]; exact heap_at_old (heap_at_new (by simp))
  have b2 : W.heap[w.heap.size + 1 + 1]? = some (.cells #[.bool false, .int .i64 0, .int .i64 0] 118 (0, 0)) := by rw [hW]; exact heap_at_new (by simp)
  have h1 := h.below BW
  have x0 := h1.blk.cell (i := 0) (by omega)
  simp only [if_true] at x0
  have hgb := (h.own.lt gb rfl)
  have HC := link_ok bm (bm + 1) gb n cap beh L1 F2 W hn hL1 hF2 h.lb x0 (by omega) h1.own
  obtain ⟨y0, y1, y2, _, _, _⟩ := cell_three' b0
  obtain ⟨z0, z1, z2, _, _, _⟩ := cell_three' b1
  clear x0
  go_enter Try.func72, Try.ntmps72
  go_upto_region 1 with fail
  rw [← hW]
  clear hW
  go_wp2_with fail
  refine HC.mono ?_
  clear HC
  rintro e w1 ⟨rfl, hT, hO⟩
  have hs1 := hT.size
  have HM : Hid (MachAt w1 bm (.slice (some ⟨gb, 0, none⟩) n cap) n (linkF beh L1 F2) rdr) := ⟨h1.blk.of_block (hT.block _ h1.blk.lt (fun e => by have := hgb.1; omega)), hO, linkF_lt hF2 h.lb, h.lr⟩
  have HT0 : Hid (Touch (fun b => b = gb) w w1) := by
    refine ⟨hT.os.trans BW.os, hT.tape.trans BW.tape, hT.output.trans BW.output, by have := BW.size; omega, fun k hk hne => (hT.block k (by omega) hne).trans (BW.block k hk)⟩
  have a0 := (hT.block _ (by omega) (fun e => by have := hgb.2; omega)).trans b0
  have a1 := (hT.block _ (by omega) (fun e => by have := hgb.2; omega)).trans b1
  have a2 := (hT.block _ (by omega) (fun e => by have := hgb.2; omega)).trans b2
  obtain ⟨y0', y1', y2', _, _, _⟩ := cell_three' a0
  obtain ⟨z0', z1', z2', _, _, _⟩ := cell_three' a1
  obtain ⟨q0, q1, q2, p0, p1, p2⟩ := cell_three' a2
  have ho1 := bits_or_i64 F1 F2 hF1 hF2
  have ho2 := bits_or_i64 L2 L1 hL2 hL1
  clear y0 y1 y2 z0 z1 z2 hT hO h1 b0 b1 b2
  obtain ⟨o1, HO1⟩ : ∃ x, Hid (F1 ||| F2 = x) := ⟨_, rfl⟩
  obtain ⟨o2, HO2⟩ : ∃ x, Hid (L2 ||| L1 = x) := ⟨_, rfl⟩
  rw [HO1.out] at ho1
  rw [HO2.out] at ho2
  have na : ¬ w.heap.size = w1.heap.size := by omega
  have nb : ¬ w.heap.size + 1 = w1.heap.size := by omega
  have nc : ¬ w.heap.size + 1 + 1 = w1.heap.size := by omega
  have ma : w.heap.size < w1.heap.size := by omega
  have mb : w.heap.size + 1 < w1.heap.size := by omega
  have mc : w.heap.size + 1 + 1 < w1.heap.size := by omega
  have HA2 : Hid _ := a2
  clear a0 a1 a2
  have hbm : bm < w.heap.size := h.blk.lt
  cases e1
  · cases e2
    · go_wp2_with fail
      obtain ⟨r0, r1, r2, hm, ht⟩ := fin_three HM.out HT0.out hbm hgb.2 (show w.heap.size ≤ w.heap.size + 1 + 1 by omega) HA2.out (.bool false) (.int .i64 (F1 : Int)) (.int .i64 (L2 : Int)) (.cells #[.bool false, .int .i64 (F1 : Int), .int .i64 (L2 : Int)] 118)
      refine bodyPost_ret (v := .agg #[.bool false, .int .i64 (F1 : Int), .int .i64 (L2 : Int)]) (by simp [results, Try.results72, go_sem, r0, r1, r2]) rfl ?_
      exact ⟨by simp, hm, ht⟩
    · go_wp2_with fail
      obtain ⟨r0, r1, r2, hm, ht⟩ := fin_three HM.out HT0.out hbm hgb.2 (show w.heap.size ≤ w.heap.size + 1 + 1 by omega) HA2.out (.bool false) (.int .i64 (F1 : Int)) (.int .i64 (o2 : Int)) (.cells #[.bool false, .int .i64 (F1 : Int), .int .i64 (o2 : Int)] 118)
      refine bodyPost_ret (v := .agg #[.bool false, .int .i64 (F1 : Int), .int .i64 (o2 : Int)]) (by simp [results, Try.results72, go_sem, r0, r1, r2]) rfl ?_
      exact ⟨by simp [HO2.out], hm, ht⟩
  · cases e2
    · go_wp2_with fail
      obtain ⟨r0, r1, r2, hm, ht⟩ := fin_three HM.out HT0.out hbm hgb.2 (show w.heap.size ≤ w.heap.size + 1 + 1 by omega) HA2.out (.bool false) (.int .i64 (o1 : Int)) (.int .i64 (L2 : Int)) (.cells #[.bool false, .int .i64 (o1 : Int), .int .i64 (L2 : Int)] 118)
      refine bodyPost_ret (v := .agg #[.bool false, .int .i64 (o1 : Int), .int .i64 (L2 : Int)]) (by simp [results, Try.results72, go_sem, r0, r1, r2]) rfl ?_
      exact ⟨by simp [HO1.out], hm, ht⟩
    · go_wp2_with fail
      obtain ⟨r0, r1, r2, hm, ht⟩ := fin_three HM.out HT0.out hbm hgb.2 (show w.heap.size ≤ w.heap.size + 1 + 1 by omega) HA2.out (.bool true) (.int .i64 (o1 : Int)) (.int .i64 (o2 : Int)) (.cells #[.bool true, .int .i64 (o1 : Int), .int .i64 (o2 : Int)] 118)
      refine bodyPost_ret (v := .agg #[.bool true, .int .i64 (o1 : Int), .int .i64 (o2 : Int)]) (by simp [results, Try.results72, go_sem, r0, r1, r2]) rfl ?_
      exact ⟨by simp [HO1.out, HO2.out], hm, ht⟩
end Go.Proofs.Ytpngikmcjkjdaab

namespace Go.Proofs.Ytpngikmcjkjdaab
open Go.RowKit
set_option linter.unusedVariables false
set_option linter.unusedSimpArgs false
theorem Touch.join {S S' : Nat → Prop} {w w1 w2 : World} (h : Touch S w w1) (h' : Touch S' w1 w2) (hs : ∀ k, k < w.heap.size → S' k → S k) : Touch S w w2 :=
  ⟨h'.os.trans h.os, h'.tape.trans h.tape, h'.output.trans h.output, Nat.le_trans h.size h'.size, fun k hk hn => (h'.block k (Nat.lt_of_lt_of_le hk h.size) (fun e => hn (hs k hk e))).trans (h.block k hk hn)⟩
theorem below_touch {S : Nat → Prop} {w w1 : World} (h : Below w.heap.size w w1) : Touch S w w1 := ⟨h.os, h.tape, h.output, h.size, fun k hk _ => h.block k hk⟩
theorem own_ne {w : World} {base e s n t b : Nat} {v : Value} {x : List Value} {cs : Array Value} {fr : Nat × Nat} (h : w.ownsRow base e s v n x) (hb : w.heap[b]? = some (.cells cs t fr)) (hne : e ≠ t) : v.ownBlock ≠ some b := by
  intro hg
  rcases h.2 with ⟨rfl, _⟩ | ⟨a, cap, cur, rfl, _, h1, _⟩
  · simp [Value.ownBlock] at hg
  · simp only [Value.ownBlock, Option.some.injEq] at hg
    subst hg
    rw [h1] at hb
    simp only [Option.some.injEq, Obj.cells.injEq] at hb
    exact hne hb.2.1
structure Lays (bm : Nat) (vb : Value) (n : Nat) (beh rdr : Nat → Nat) (w : World) (vb' : Value) (n' : Nat) (beh' rdr' : Nat → Nat) (w' : World) : Prop where
  mach : MachAt w' bm vb' n' beh' rdr'
  fresh : ∀ c p, n' ≤ p → (rdr' c).testBit p = false
  behs : ∀ p, p < n → beh' p = beh p
  rdrs : ∀ p c, p < n → (rdr' c).testBit p = (rdr c).testBit p
  touch : Touch (fun b => b = bm ∨ vb.ownBlock = some b) w w'
  own : ∀ g, vb'.ownBlock = some g → vb.ownBlock = some g ∨ w.heap.size ≤ g
section
variable {bm : Nat} {vb vb1 vb2 : Value} {n n1 n2 : Nat} {beh beh1 beh2 rdr rdr1 rdr2 : Nat → Nat} {w w1 w2 : World}
theorem Lays.refl (h : MachAt w bm vb n beh rdr) (hf : ∀ c p, n ≤ p → (rdr c).testBit p = false) : Lays bm vb n beh rdr w vb n beh rdr w :=
  ⟨h, hf, fun _ _ => rfl, fun _ _ _ => rfl, Touch.refl _ _, fun g hg => .inl hg⟩
theorem Lays.grow (h : Lays bm vb n beh rdr w vb1 n1 beh1 rdr1 w1) (hb : Below w1.heap.size w1 w2) : Lays bm vb n beh rdr w vb1 n1 beh1 rdr1 w2 :=
  ⟨h.mach.below hb, h.fresh, h.behs, h.rdrs, h.touch.join (below_touch (S := fun _ => False) hb) (fun _ _ h => False.elim h), h.own⟩
theorem Lays.pre (h : Lays bm vb n beh rdr w1 vb1 n1 beh1 rdr1 w2) (hb : Below w.heap.size w w1) : Lays bm vb n beh rdr w vb1 n1 beh1 rdr1 w2 :=
  ⟨h.mach, h.fresh, h.behs, h.rdrs, (below_touch (S := fun b => b = bm ∨ vb.ownBlock = some b) hb).join h.touch (fun _ _ h => h), fun g hg => (h.own g hg).imp id (fun h => Nat.le_trans hb.size h)⟩
theorem Lays.trans (h : Lays bm vb n beh rdr w vb1 n1 beh1 rdr1 w1) (h' : Lays bm vb1 n1 beh1 rdr1 w1 vb2 n2 beh2 rdr2 w2) (hn : n ≤ n1) : Lays bm vb n beh rdr w vb2 n2 beh2 rdr2 w2 :=
  ⟨h'.mach, h'.fresh, fun p hp => (h'.behs p (by omega)).trans (h.behs p hp), fun p c hp => (h'.rdrs p c (by omega)).trans (h.rdrs p c hp),
    h.touch.join h'.touch (fun k hk hs => by
      rcases hs with hs | hs
      · exact .inl hs
      · rcases h.own k hs with h1 | h1
        · exact .inr h1
        · omega), fun g hg => by
      rcases h'.own g hg with h1 | h1
      · exact h.own g h1
      · right; have := h.touch.size; omega⟩
theorem linkF_out {beh : Nat → Nat} {L F p : Nat} (h : L.testBit p = false) : linkF beh L F p = beh p := by unfold linkF; rw [if_neg (by simp [h])]
theorem Lays.linked {gb cap L F : Nat} (h : Lays bm vb n beh rdr w (.slice (some ⟨gb, 0, none⟩) n1 cap) n1 beh1 rdr1 w1) (hm : MachAt w2 bm (.slice (some ⟨gb, 0, none⟩) n1 cap) n1 (linkF beh1 L F) rdr1) (ht : Touch (fun b => b = gb) w1 w2) (hL : ∀ p, L.testBit p = true → n ≤ p) :
    Lays bm vb n beh rdr w (.slice (some ⟨gb, 0, none⟩) n1 cap) n1 (linkF beh1 L F) rdr1 w2 :=
  ⟨hm, h.fresh, fun p hp => by
    rw [linkF_out (by
      cases hb : L.testBit p
      · rfl
      · have := hL p hb; omega)]
    exact h.behs p hp, h.rdrs, h.touch.join ht (fun k hk hs => by
      have hs' : k = gb := hs
      subst hs'
      rcases h.own k rfl with h1 | h1
      · exact .inr h1
      · omega), h.own⟩
theorem StrOk.F_lt {lo hi : Nat} {e : Bool} {F L : Nat} {l : List Nat → Prop} (h : StrOk rdr beh lo hi e F L l) (hh : hi ≤ 11) : F < 2048 :=
  Nat.lt_pow_two_of_testBit (n := 11) F (fun i hi => by
    cases hb : F.testBit i
    · rfl
    · have := (h.fi i hb).2; omega)
theorem StrOk.L_lt {lo hi : Nat} {e : Bool} {F L : Nat} {l : List Nat → Prop} (h : StrOk rdr beh lo hi e F L l) (hh : hi ≤ 11) : L < 2048 :=
  Nat.lt_pow_two_of_testBit (n := 11) L (fun i hi => by
    cases hb : L.testBit i
    · rfl
    · have := (h.la i hb).2; omega)
theorem StrOk.laid {lo : Nat} {e : Bool} {F L : Nat} {l : List Nat → Prop} (h : StrOk rdr1 beh1 lo n1 e F L l) (h' : Lays bm vb1 n1 beh1 rdr1 w1 vb2 n2 beh2 rdr2 w2) : StrOk rdr2 beh2 lo n1 e F L l :=
  h.later (fun p _ hp => h'.behs p hp) (fun p c hp => h'.rdrs p c hp)
end
end Go.Proofs.Ytpngikmcjkjdaab

namespace Go.Proofs.Ytpngikmcjkjdaab
open Go.RowKit
set_option linter.unusedVariables false
set_option linter.unusedSimpArgs false
theorem rowIs8b {w : World} {b t : Nat} {f : Nat → Bool} (h : w.rowIs b t 8 (fun i => .bool (f i))) :
    w.cell? ⟨b, 0, none⟩ = some (.bool (f 0)) ∧ w.cell? ⟨b, 1, none⟩ = some (.bool (f 1)) ∧ w.cell? ⟨b, 2, none⟩ = some (.bool (f 2)) ∧ w.cell? ⟨b, 3, none⟩ = some (.bool (f 3)) ∧ w.cell? ⟨b, 4, none⟩ = some (.bool (f 4)) ∧ w.cell? ⟨b, 5, none⟩ = some (.bool (f 5)) ∧ w.cell? ⟨b, 6, none⟩ = some (.bool (f 6)) ∧ w.cell? ⟨b, 7, none⟩ = some (.bool (f 7)) :=
  ⟨h.cell (i := 0) (by omega), h.cell (i := 1) (by omega), h.cell (i := 2) (by omega), h.cell (i := 3) (by omega), h.cell (i := 4) (by omega), h.cell (i := 5) (by omega), h.cell (i := 6) (by omega), h.cell (i := 7) (by omega)⟩
theorem rowIs8f {w : World} {b t : Nat} {f : Nat → Value} (h : w.rowIs b t 8 f) :
    w.frozen? ⟨b, 0, none⟩ = false ∧ w.frozen? ⟨b, 1, none⟩ = false ∧ w.frozen? ⟨b, 2, none⟩ = false ∧ w.frozen? ⟨b, 3, none⟩ = false ∧ w.frozen? ⟨b, 4, none⟩ = false ∧ w.frozen? ⟨b, 5, none⟩ = false ∧ w.frozen? ⟨b, 6, none⟩ = false ∧ w.frozen? ⟨b, 7, none⟩ = false :=
  ⟨h.frozen 0, h.frozen 1, h.frozen 2, h.frozen 3, h.frozen 4, h.frozen 5, h.frozen 6, h.frozen 7⟩
def put8b (w : World) (b : Nat) (f : Nat → Bool) : World := ((((((((w.setCell ⟨b, 0, none⟩ (.bool (f 0))).setCell ⟨b, 1, none⟩ (.bool (f 1))).setCell ⟨b, 2, none⟩ (.bool (f 2))).setCell ⟨b, 3, none⟩ (.bool (f 3))).setCell ⟨b, 4, none⟩ (.bool (f 4))).setCell ⟨b, 5, none⟩ (.bool (f 5))).setCell ⟨b, 6, none⟩ (.bool (f 6))).setCell ⟨b, 7, none⟩ (.bool (f 7)))
theorem put8b_row {w : World} {b t : Nat} {g : Nat → Value} (f : Nat → Bool) (h : w.rowIs b t 8 g) : (put8b w b f).rowIs b t 8 (fun i => .bool (f i)) := by
  unfold put8b
  refine ((((((((h.set 0 _).set 1 _).set 2 _).set 3 _).set 4 _).set 5 _).set 6 _).set 7 _).congr (fun i hi => ?_)
  rcases (show i = 0 ∨ i = 1 ∨ i = 2 ∨ i = 3 ∨ i = 4 ∨ i = 5 ∨ i = 6 ∨ i = 7 by omega) with rfl | rfl | rfl | rfl | rfl | rfl | rfl | rfl <;> simp
theorem put8b_below {W w : World} {B b : Nat} (f : Nat → Bool) (h : Below B W w) (hb : B ≤ b) : Below B W (put8b w b f) := by
  unfold put8b
  exact ((((((((h.setCell hb _).setCell hb _).setCell hb _).setCell hb _).setCell hb _).setCell hb _).setCell hb _).setCell hb _)
theorem put8b_touch {S : Nat → Prop} {W w : World} {b : Nat} (f : Nat → Bool) (h : Touch S W w) (hb : S b ∨ W.heap.size ≤ b) : Touch S W (put8b w b f) := by
  unfold put8b
  exact ((((((((h.set _ _ hb).set _ _ hb).set _ _ hb).set _ _ hb).set _ _ hb).set _ _ hb).set _ _ hb).set _ _ hb)
set_option maxRecDepth 20000 in
set_option maxHeartbeats 1600000 in
theorem others_ok (f : Nat → Bool) (w : World) :
    Calls Try.prog 104 #[.agg (bools8 f)] w fun e w' => e = .returned (.agg (bools8 (fun c => !f c))) ∧ Below w.heap.size w w' := by
  obtain ⟨W, hW⟩ : ∃ W, W = ((w.alloc (.cells (bools8 f) 88)).alloc (.cells (bools8 (fun _ => false)) 88)).alloc (.cells (bools8 (fun _ => false)) 88) := ⟨_, rfl⟩
  have BW : Below w.heap.size w W := by
    rw [hW]; exact (((Below.refl _ _).alloc (Nat.le_refl _) _).alloc (by simp) _).alloc (by simp; omega) _
  have hWs : W.heap.size = w.heap.size + 1 + 1 + 1 := by rw [hW]; simp
  have b0 : W.heap[w.heap.size]? = some (.cells (bools8 f) 88 (0, 0)) := by rw [hW]; exact heap_at_old (heap_at_old (heap_at_new (by simp)))
  have b1 : W.heap[w.heap.size + 1]? = some (.cells (bools8 (fun _ => false)) 88 (0, 0)) := by rw [hW]; exact heap_at_old (heap_at_new (by simp))
  have b2 : W.heap[w.heap.size + 1 + 1]? = some (.cells (bools8 (fun _ => false)) 88 (0, 0)) := by rw [hW]; exact heap_at_new (by simp)
  have r0 := bools8_is b0
  have r1 := bools8_is b1
  have r2 := bools8_is b2
  simp only [show bools8 (fun _ => false) = #[.bool false, .bool false, .bool false, .bool false, .bool false, .bool false, .bool false, .bool false] from rfl] at hW
  go_enter Try.func104, Try.ntmps104
  go_wp2_with fail
  rw [← hW]
  clear hW
  go_loopw [4] (fun i' wr => ∃ i : Nat, i ≤ 8 ∧ i' = .int .i64 i ∧ Below (w.heap.size + 1 + 1) W wr ∧ wr.rowIs (w.heap.size + 1 + 1) 88 8 (fun j => .bool (if j < i then !f j else false))) (fun i' _ => 8 - (intOf i').toNat)
  case atStart => exact ⟨0, by omega, rfl, Below.refl _ _, r2.congr (fun j _ => by simp)⟩
  case round =>
    obtain ⟨i, hi, rfl, hb, hr⟩ := hrel
    clear r2
    have r0' := r0.of_block (hb.block _ (by omega))
    have r1' := r1.of_block (hb.block _ (by omega))
    by_cases hlt : i < 8
    · have c0 := hr.cell (i := i) (by omega)
      have c1 := hr.frozen i
      have c2 := r0'.cell (i := i) (by omega)
      have HR : Hid (wr.rowIs (w.heap.size + 1 + 1) 88 8 (fun j => .bool (if j < i then !f j else false))) := hr
      have HB : Hid _ := hb
      clear hr hb r0' r1'
      obtain ⟨fi, HFI⟩ : ∃ x, Hid (f i = x) := ⟨_, rfl⟩
      rw [HFI.out] at c2
      go_wp2_with fail
      go_roundw
      case rel =>
        refine ⟨i + 1, by omega, by go_num, HB.out.setCell (p := ⟨w.heap.size + 1 + 1, i, none⟩) (Nat.le_refl _) _, (HR.out.set i _).congr (fun j _ => ?_)⟩
        by_cases e : j = i
        · subst e; simp [HFI.out]
        · by_cases h' : j < i
          · simp only [e, h', if_false, if_true]; rw [if_pos (by omega)]
          · simp only [e, h', if_false]; rw [if_neg (by omega)]
      case measure => simp [intOf]; omega
    · have he : i = 8 := by omega
      subst he
      have hr' : wr.rowIs (w.heap.size + 1 + 1) 88 8 (fun j => .bool ((fun c => !f c) j)) := hr.congr (fun j hj => by rw [if_pos hj])
      clear hr
      obtain ⟨g, hg⟩ : ∃ g : Nat → Bool, g = (fun c => !f c) := ⟨_, rfl⟩
      rw [← hg] at hr'
      obtain ⟨c0, c1, c2, c3, c4, c5, c6, c7⟩ := rowIs8b hr'
      obtain ⟨d0, d1, d2, d3, d4, d5, d6, d7⟩ := rowIs8b r1'
      obtain ⟨e0, e1, e2, e3, e4, e5, e6, e7⟩ := rowIs8f r1'
      have HR1 : Hid (wr.rowIs (w.heap.size + 1) 88 8 (fun i => .bool ((fun _ => false) i))) := r1'
      have HB : Hid _ := hb
      have HGG : Hid (g = (fun c => !f c)) := hg
      clear r0' r1' hr' hb hg r0 r1
      go_wp2_with fail
      obtain ⟨W9, hW9⟩ : ∃ W9, W9 = put8b wr (w.heap.size + 1) g := ⟨_, rfl⟩
      have hr9 := put8b_row g HR1.out
      have hb9 : Below w.heap.size w (put8b wr (w.heap.size + 1) g) := put8b_below g (BW.trans (HB.out.mono (by omega))) (by omega)
      rw [← hW9] at hr9 hb9
      unfold put8b at hW9
      rw [← hW9]
      clear hW9 c0 c1 c2 c3 c4 c5 c6 c7
      obtain ⟨c0, c1, c2, c3, c4, c5, c6, c7⟩ := rowIs8b hr9
      refine bodyPost_ret (v := .agg (bools8 g)) (by simp [results, Try.results104, go_sem, bools8, c0, c1, c2, c3, c4, c5, c6, c7]) rfl ?_
      exact ⟨by rw [HGG.out], hb9⟩
end Go.Proofs.Ytpngikmcjkjdaab

namespace Go.Proofs.Ytpngikmcjkjdaab
open Go.RowKit
set_option linter.unusedVariables false
set_option linter.unusedSimpArgs false
def AddPost (bp : Nat) (s : ByteArray) (t : Sp) (L : List Nd) (d : Nd) (w : World) (e : Ending) (w' : World) : Prop :=
  e = .returned (.int .i64 ((L.length : Nat) : Int)) ∧ ∃ vn', ParM w' bp s t vn' (L ++ [d]) ∧ Below bp w w'
set_option maxRecDepth 20000 in
set_option maxHeartbeats 4000000 in
theorem addSingle_ok (bp : Nat) (s : ByteArray) (t : Sp) (vn : Value) (L : List Nd) (f : Nat → Bool) (w : World) (h : ParM w bp s t vn L) (hl : L.length ≤ 1000) :
    Calls Try.prog 103 #[.pointer (some ⟨bp, 2, none⟩), .agg (bools8 f)] w (AddPost bp s t L ⟨1, 1, f, 0, 0, false, 0, 0⟩ w) := by
  have hbp := h.lt
  obtain ⟨W, hW⟩ : ∃ W, W = w.alloc (.cells (bools8 f) 88) := ⟨_, rfl⟩
  have BW : Below w.heap.size w W := by rw [hW]; exact (Below.refl _ _).alloc (Nat.le_refl _) _
  have b0 : W.heap[w.heap.size]? = some (.cells (bools8 f) 88 (0, 0)) := by rw [hW]; exact heap_at_new rfl
  obtain ⟨c0, c1, c2, c3, c4, c5, c6, c7⟩ := rowIs8b (bools8_is b0)
  have HC := tnode_ok bp s t vn L ⟨1, 1, f, 0, 0, false, 0, 0⟩ W (h.below BW) hl
  unfold nagg at HC
  simp only [show ((0 : Nat) : Int) = 0 from rfl, show ((1 : Nat) : Int) = 1 from rfl] at HC
  clear b0
  go_enter Try.func103, Try.ntmps103
  go_upto_region 1 with fail
  rw [← hW]
  clear hW
  go_wp2_with fail
  refine HC.mono ?_
  rintro e w1 ⟨rfl, vn', hp, hb⟩
  go_wp2_with fail
  go_ret
  exact ⟨rfl, vn', hp, (BW.mono (by omega)).trans hb⟩
theorem ParM.nd {w : World} {bp : Nat} {s : ByteArray} {t : Sp} {vn : Value} {L : List Nd} (h : ParM w bp s t vn L) {i : Nat} {d : Nd} (hi : L[i]? = some d) :
    ∃ g cap, vn = .slice (some ⟨g, 0, none⟩) L.length cap ∧ ∀ j, j < 15 → w.cell? ⟨g, i * 15 + j, none⟩ = (nagg d)[j]? := by
  have hlt : i < L.length := (List.getElem?_eq_some_iff.1 hi).1
  obtain ⟨ao, cap, rfl, hao⟩ := ownsRow_shape h.own
  obtain ⟨g, rfl, hcp⟩ := hao (by omega)
  exact ⟨g, cap, rfl, fun j hj => (hcp (i * 15 + j) (by omega)).trans (ndcells_at L i j d hi hj)⟩
set_option maxRecDepth 20000 in
set_option maxHeartbeats 4000000 in
theorem addTwo_ok (bp : Nat) (s : ByteArray) (t : Sp) (vn : Value) (L : List Nd) (kind one two : Nat) (d1 d2 : Nd) (w : World) (h : ParM w bp s t vn L) (hl : L.length ≤ 1000) (h1 : L[one]? = some d1) (h2 : L[two]? = some d2) (hs1 : d1.size ≤ 1000000000) (hs2 : d2.size ≤ 1000000000) :
    Calls Try.prog 87 #[.pointer (some ⟨bp, 2, none⟩), .int .i64 (kind : Int), .int .i64 (one : Int), .int .i64 (two : Int)] w (AddPost bp s t L ⟨kind, d1.size + d2.size, fun _ => false, 0, 0, false, one, two⟩ w) := by
  have hbp := h.lt
  obtain ⟨g, cap, rfl, hc1⟩ := h.nd h1
  obtain ⟨g', cap', he, hc2⟩ := h.nd h2
  simp only [Value.slice.injEq, Option.some.injEq, Addr.mk.injEq] at he
  obtain ⟨⟨rfl, _⟩, _, rfl⟩ := he
  have x1 := hc1 1 (by omega)
  have x2 := hc2 1 (by omega)
  obtain ⟨z1, Z1⟩ : ∃ z, Hid (d1.size = z) := ⟨_, rfl⟩
  obtain ⟨z2, Z2⟩ : ∃ z, Hid (d2.size = z) := ⟨_, rfl⟩
  simp [nagg] at x1 x2
  rw [Z1.out] at x1 hs1 ⊢
  rw [Z2.out] at x2 hs2 ⊢
  have hl1 : one < L.length := (List.getElem?_eq_some_iff.1 h1).1
  have hl2 : two < L.length := (List.getElem?_eq_some_iff.1 h2).1
  obtain ⟨_, _, x3, _, _, _, _, _⟩ := h.par.cells
  have HC := fun w => tnode_ok bp s t (.slice (some ⟨g, 0, none⟩) L.length cap) L ⟨kind, z1 + z2, fun _ => false, 0, 0, false, one, two⟩ w
  unfold nagg at HC
  simp only [show ((0 : Nat) : Int) = 0 from rfl, show ((4 : Nat) : Int) = 4 from rfl] at HC
  have HP : Hid (ParM w bp s t (.slice (some ⟨g, 0, none⟩) L.length cap) L) := h
  clear hc1 hc2 h h1 h2
  have hcast : ((z1 + z2 : Nat) : Int) = (z1 : Int) + (z2 : Int) := by simp
  rw [hcast] at HC
  clear hcast
  go_enter Try.func87, Try.ntmps87
  go_wp2_with fail
  go_quiet (fail)
  have HC2 := HC (w.drewN nq) (HP.out.below (below_drewN (Below.refl w.heap.size w) nq)) hl
  clear HC
  go_wp2_with fail
  refine HC2.mono ?_
  rintro e w1 ⟨rfl, vn', hp, hb⟩
  go_wp2_with fail
  go_ret
  exact ⟨rfl, vn', hp, ((below_drewN (Below.refl w.heap.size w) nq).mono (by omega)).trans hb⟩
theorem wrap_mul_small {a b : Int} (ha : 0 ≤ a) (hb : 0 ≤ b) (ha2 : a ≤ 1000000000) (hb2 : b ≤ 10) : wrap64 (a * b) = a * b := by
  have h1 : a * b ≤ 1000000000 * 10 := Int.mul_le_mul ha2 hb2 hb (by omega)
  have h2 : 0 ≤ a * b := Int.mul_nonneg ha hb
  unfold wrap64
  omega
set_option maxRecDepth 20000 in
set_option maxHeartbeats 4000000 in
theorem addRepeat_ok (bp : Nat) (s : ByteArray) (t : Sp) (vn : Value) (L : List Nd) (one lo co : Nat) (en : Bool) (d1 : Nd) (w : World) (h : ParM w bp s t vn L) (hl : L.length ≤ 1000) (h1 : L[one]? = some d1) (hs1 : d1.size ≤ 1000000000) (hco : co ≤ 10) :
    Calls Try.prog 99 #[.pointer (some ⟨bp, 2, none⟩), .int .i64 (one : Int), .agg #[.int .i64 (lo : Int), .int .i64 (co : Int), .bool en]] w (AddPost bp s t L ⟨4, d1.size * co, fun _ => false, lo, co, en, one, 0⟩ w) := by
  have hbp := h.lt
  obtain ⟨W, hW⟩ : ∃ W, W = w.alloc (.cells #[.int .i64 (lo : Int), .int .i64 (co : Int), .bool en] 90) := ⟨_, rfl⟩
  have BW : Below w.heap.size w W := by rw [hW]; exact (Below.refl _ _).alloc (Nat.le_refl _) _
  have b0 : W.heap[w.heap.size]? = some (.cells #[.int .i64 (lo : Int), .int .i64 (co : Int), .bool en] 90 (0, 0)) := by rw [hW]; exact heap_at_new rfl
  obtain ⟨c0, c1, c2, _, _, _⟩ := cell_three' b0
  have h' := h.below BW
  obtain ⟨g, cap, rfl, hc1⟩ := h'.nd h1
  have x1 := hc1 1 (by omega)
  obtain ⟨z1, Z1⟩ : ∃ z, Hid (d1.size = z) := ⟨_, rfl⟩
  simp [nagg] at x1
  rw [Z1.out] at x1 hs1 ⊢
  have hl1 : one < L.length := (List.getElem?_eq_some_iff.1 h1).1
  obtain ⟨_, _, x3, _, _, _, _, _⟩ := h'.par.cells
  have HC := fun w => tnode_ok bp s t (.slice (some ⟨g, 0, none⟩) L.length cap) L ⟨4, z1 * co, fun _ => false, lo, co, en, one, 0⟩ w
  unfold nagg at HC
  simp only [show ((0 : Nat) : Int) = 0 from rfl, show ((4 : Nat) : Int) = 4 from rfl] at HC
  have HP : Hid (ParM W bp s t (.slice (some ⟨g, 0, none⟩) L.length cap) L) := h'
  have hcast : ((z1 * co : Nat) : Int) = (z1 : Int) * (co : Int) := by simp
  have hwr := wrap_mul_small (a := (z1 : Int)) (b := (co : Int)) (by omega) (by omega) (by omega) (by omega)
  rw [hcast] at HC
  clear hcast hc1 h h' h1 b0
  have hWs := BW.size
  go_enter Try.func99, Try.ntmps99
  go_upto_region 1 with fail
  rw [← hW]
  clear hW
  go_wp2_with fail
  go_quiet (fail)
  have HC2 := HC (W.drewN nq) (HP.out.below (below_drewN (Below.refl W.heap.size W) nq)) hl
  clear HC
  go_wp2_with fail
  refine HC2.mono ?_
  rintro e w1 ⟨rfl, vn', hp, hb⟩
  go_wp2_with fail
  go_ret
  exact ⟨rfl, vn', hp, (BW.mono (by omega)).trans (((below_drewN (Below.refl W.heap.size W) nq).mono (by omega)).trans hb)⟩
end Go.Proofs.Ytpngikmcjkjdaab

namespace Go.Proofs.Ytpngikmcjkjdaab
open Go.RowKit
set_option linter.unusedVariables false
set_option linter.unusedSimpArgs false
def NodesAt (w : World) (gn : Nat) (L : List Nd) : Prop := ∀ i d, L[i]? = some d → ∀ j, j < 15 → w.cell? ⟨gn, i * 15 + j, none⟩ = (nagg d)[j]?
theorem NodesAt.block {w w1 : World} {gn : Nat} {L : List Nd} (h : NodesAt w gn L) (hb : w1.heap[gn]? = w.heap[gn]?) : NodesAt w1 gn L := fun i d hi j hj => (World.cell?_of_block (a := ⟨gn, _, none⟩) hb).trans (h i d hi j hj)
def LayPost (bm : Nat) (vb : Value) (n : Nat) (beh rdr : Nat → Nat) (p : Pat) (w : World) (e : Ending) (w' : World) : Prop :=
  ∃ (em : Bool) (F La : Nat) (vb' : Value) (beh' rdr' : Nat → Nat), e = .returned (.agg #[.bool em, .int .i64 (F : Int), .int .i64 (La : Int)]) ∧ Lays bm vb n beh rdr w vb' (n + p.size) beh' rdr' w' ∧ StrOk rdr' beh' n (n + p.size) em F La p.lang
structure LayIn (w : World) (gn bm : Nat) (L : List Nd) (vb : Value) (n : Nat) (beh rdr : Nat → Nat) : Prop where
  nod : NodesAt w gn L
  ahead : gn < bm
  mach : MachAt w bm vb n beh rdr
  fresh : ∀ c q, n ≤ q → (rdr c).testBit q = false
  pos : 1 ≤ n
theorem LayIn.below {w w1 : World} {gn bm : Nat} {L : List Nd} {vb : Value} {n : Nat} {beh rdr : Nat → Nat} (h : LayIn w gn bm L vb n beh rdr) (hb : Below w.heap.size w w1) : LayIn w1 gn bm L vb n beh rdr :=
  ⟨h.nod.block (hb.block _ (by have := h.mach.blk.lt; have := h.ahead; omega)), h.ahead, h.mach.below hb, h.fresh, h.pos⟩
theorem LayIn.laid {w w1 : World} {gn bm : Nat} {L : List Nd} {vb vb1 : Value} {n n1 : Nat} {beh rdr beh1 rdr1 : Nat → Nat} (h : LayIn w gn bm L vb n beh rdr) (hl : Lays bm vb n beh rdr w vb1 n1 beh1 rdr1 w1) (hn : n ≤ n1) : LayIn w1 gn bm L vb1 n1 beh1 rdr1 := by
  have ha := h.ahead
  have hb := h.mach.blk.lt
  refine ⟨h.nod.block (hl.touch.block gn (by omega) ?_), ha, hl.mach, hl.fresh, by have := h.pos; omega⟩
  rintro (e | e)
  · omega
  · have := (h.mach.own.lt _ e).1; omega
def LayC (p : Pat) : Prop := ∀ (L : List Nd) (gn cap i bm : Nat) (vb : Value) (n : Nat) (beh rdr : Nat → Nat) (w : World), NodeIs L i p → LayIn w gn bm L vb n beh rdr → n + p.size ≤ 11 →
  Calls Try.prog 71 #[.pointer (some ⟨bm, 0, none⟩), .slice (some ⟨gn, 0, none⟩) L.length cap, .int .i64 (i : Int)] w (LayPost bm vb n beh rdr p w)
theorem keep_blk {bm : Nat} {vb : Value} {n : Nat} {beh rdr : Nat → Nat} {w w1 : World} {b t : Nat} {cs : Array Value} (hm : MachAt w bm vb n beh rdr) (ht : Touch (fun b => b = bm ∨ vb.ownBlock = some b) w w1) (hb : w.heap[b]? = some (.cells cs t (0, 0))) (hbm : bm < b) (hty : 3 ≠ t) : w1.heap[b]? = some (.cells cs t (0, 0)) := by
  refine (ht.block b (heap_lt hb) ?_).trans hb
  rintro (e | e)
  · omega
  · exact own_ne hm.own hb hty e
theorem touch_gb {bm gb n cap : Nat} {w w1 : World} (ht : Touch (fun k => k = gb) w w1) : Touch (fun k => k = bm ∨ (Value.slice (some ⟨gb, 0, none⟩) n cap).ownBlock = some k) w w1 :=
  ⟨ht.os, ht.tape, ht.output, ht.size, fun k hk hn => ht.block k hk (fun e => hn (.inr (by simp only [Value.ownBlock]; rw [show k = gb from e])))⟩
theorem nagg_cells {w : World} {b t : Nat} {d : Nd} (h : w.heap[b]? = some (.cells (nagg d) t (0, 0))) : ∀ j, j < 15 → w.cell? ⟨b, j, none⟩ = (nagg d)[j]? := fun j hj => cell_of_row w b j (nagg d) t (0, 0) h
theorem MachAt.slice {w : World} {bm : Nat} {vb : Value} {n : Nat} {beh rdr : Nat → Nat} (h : MachAt w bm vb n beh rdr) (hn : 1 ≤ n) : ∃ gb cap, vb = .slice (some ⟨gb, 0, none⟩) n cap := by
  obtain ⟨ao, cap, rfl, hao⟩ := ownsRow_shape h.own
  obtain ⟨g, rfl, _⟩ := hao (by omega)
  exact ⟨g, cap, rfl⟩
theorem lays_set {bm : Nat} {vb vb1 : Value} {n n1 : Nat} {beh rdr beh1 rdr1 : Nat → Nat} {w w1 : World} (h : Lays bm vb n beh rdr w vb1 n1 beh1 rdr1 w1) {b t : Nat} {x y z : Value} (hb : w1.heap[b]? = some (.cells #[x, y, z] t (0, 0))) (hw : w.heap.size ≤ b) (hbm : bm < b) (hty : 3 ≠ t) (u v r : Value) :
    Lays bm vb n beh rdr w vb1 n1 beh1 rdr1 (((w1.setCell ⟨b, 0, none⟩ u).setCell ⟨b, 1, none⟩ v).setCell ⟨b, 2, none⟩ r) ∧
    (((w1.setCell ⟨b, 0, none⟩ u).setCell ⟨b, 1, none⟩ v).setCell ⟨b, 2, none⟩ r).heap[b]? = some (.cells #[u, v, r] t (0, 0)) := by
  have h3 : (((w1.setCell ⟨b, 0, none⟩ u).setCell ⟨b, 1, none⟩ v).setCell ⟨b, 2, none⟩ r).heap[b]? = some (.cells #[u, v, r] t (0, 0)) := by
    simp [World.setCell, Array.getElem?_modify, hb]
  have hown : ∀ g, vb1.ownBlock = some g → g ≠ b := fun g hg e => own_ne h.mach.own hb hty (by rw [hg, e])
  refine ⟨⟨⟨((h.mach.blk.setOther (by simp; omega) _).setOther (by simp; omega) _).setOther (by simp; omega) _, ownsRow_set (ownsRow_set (ownsRow_set h.mach.own _ _ hown) _ _ hown) _ _ hown, h.mach.lb, h.mach.lr⟩, h.fresh, h.behs, h.rdrs, ((h.touch.set _ _ (.inr hw)).set _ _ (.inr hw)).set _ _ (.inr hw), h.own⟩, h3⟩
set_option maxRecDepth 20000 in
set_option maxHeartbeats 8000000 in
theorem lay_none (L : List Nd) (gn cap i bm : Nat) (vb : Value) (n : Nat) (beh rdr : Nat → Nat) (w : World) (sz : Nat) (S : Nat → Bool) (le co : Nat) (en : Bool) (o t : Nat) (hd : L[i]? = some ⟨0, sz, S, le, co, en, o, t⟩) (hin : LayIn w gn bm L vb n beh rdr) :
    Calls Try.prog 71 #[.pointer (some ⟨bm, 0, none⟩), .slice (some ⟨gn, 0, none⟩) L.length cap, .int .i64 (i : Int)] w (LayPost bm vb n beh rdr .none w) := by
  have hlt : i < L.length := (List.getElem?_eq_some_iff.1 hd).1
  have hbm : bm < w.heap.size := hin.mach.blk.lt
  have hgn : gn < w.heap.size := by have := hin.ahead; omega
  have hgne : ¬ gn = w.heap.size := by omega
  have NC := hin.nod i _ hd
  have n0 := NC 0 (by omega)
  have n1 := NC 1 (by omega)
  have n2 := NC 2 (by omega)
  have n3 := NC 3 (by omega)
  have n4 := NC 4 (by omega)
  have n5 := NC 5 (by omega)
  have n6 := NC 6 (by omega)
  have n7 := NC 7 (by omega)
  have n8 := NC 8 (by omega)
  have n9 := NC 9 (by omega)
  have n10 := NC 10 (by omega)
  have n11 := NC 11 (by omega)
  have n12 := NC 12 (by omega)
  have n13 := NC 13 (by omega)
  have n14 := NC 14 (by omega)
  simp [nagg] at n0 n1 n2 n3 n4 n5 n6 n7 n8 n9 n10 n11 n12 n13 n14
  clear NC
  obtain ⟨W, hW⟩ : ∃ W, W = (w.alloc (.cells #[.bool false, .int .i64 0, .int .i64 0] 118)).alloc (.cells (nagg ⟨0, sz, S, le, co, en, o, t⟩) 92) := ⟨_, rfl⟩
  have BW : Below w.heap.size w W := by rw [hW]; exact ((Below.refl _ _).alloc (Nat.le_refl _) _).alloc (by simp) _
  have hWs : W.heap.size = w.heap.size + 1 + 1 := by rw [hW]; simp
  have b0 : W.heap[w.heap.size]? = some (.cells #[.bool false, .int .i64 0, .int .i64 0] 118 (0, 0)) := by rw [hW]; exact heap_at_old (heap_at_new rfl)
  have b1 : W.heap[w.heap.size + 1]? = some (.cells (nagg ⟨0, sz, S, le, co, en, o, t⟩) 92 (0, 0)) := by rw [hW]; exact heap_at_new (by simp)
  have hin1 := hin.below BW
  have KC := nagg_cells b1
  have k0 := KC 0 (by omega)
  simp [nagg] at k0
  clear KC
  unfold nagg at hW
  simp only [show ((0 : Nat) : Int) = 0 from rfl, show ((1 : Nat) : Int) = 1 from rfl, show ((2 : Nat) : Int) = 2 from rfl, show ((3 : Nat) : Int) = 3 from rfl, show ((4 : Nat) : Int) = 4 from rfl] at hW
  go_enter Try.func71, Try.ntmps71
  go_upto_region 2 with fail
  rw [← hW]
  clear hW n0 n1 n2 n3 n4 n5 n6 n7 n8 n9 n10 n11 n12 n13 n14
  have hL : Lays bm vb n beh rdr w vb n beh rdr W := (Lays.refl hin.mach hin.fresh).grow BW
  obtain ⟨q0, q1, q2, p0, p1, p2⟩ := cell_three' b0
  obtain ⟨hL9, hb9⟩ := lays_set hL b0 (Nat.le_refl _) (by omega) (by decide) (.bool true) (.int .i64 0) (.int .i64 0)
  obtain ⟨r0, r1, r2, _, _, _⟩ := cell_three' hb9
  have HR0 : Hid _ := r0
  have HR1 : Hid _ := r1
  have HR2 : Hid _ := r2
  clear r0 r1 r2 hb9
  go_wp2_with fail
  have r0 := HR0.out
  have r1 := HR1.out
  have r2 := HR2.out
  refine bodyPost_ret (v := .agg #[.bool true, .int .i64 0, .int .i64 0]) (by simp [results, Try.results71, go_sem, r0, r1, r2]) rfl ?_
  exact ⟨true, 0, 0, vb, beh, rdr, rfl, hL9, StrOk.nothing rdr beh n⟩
set_option maxRecDepth 20000 in
set_option maxHeartbeats 8000000 in
theorem lay_one (L : List Nd) (gn cap i bm : Nat) (vb : Value) (n : Nat) (beh rdr : Nat → Nat) (w : World) (sz : Nat) (S : Nat → Bool) (le co : Nat) (en : Bool) (o t : Nat) (hd : L[i]? = some ⟨1, sz, S, le, co, en, o, t⟩) (hin : LayIn w gn bm L vb n beh rdr) (hn : n < 11) :
    Calls Try.prog 71 #[.pointer (some ⟨bm, 0, none⟩), .slice (some ⟨gn, 0, none⟩) L.length cap, .int .i64 (i : Int)] w (LayPost bm vb n beh rdr (.one S) w) := by
  have hlt : i < L.length := (List.getElem?_eq_some_iff.1 hd).1
  have hbm : bm < w.heap.size := hin.mach.blk.lt
  have hgn : gn < w.heap.size := by have := hin.ahead; omega
  have hgne : ¬ gn = w.heap.size := by omega
  have NC := hin.nod i _ hd
  have n0 := NC 0 (by omega)
  have n1 := NC 1 (by omega)
  have n2 := NC 2 (by omega)
  have n3 := NC 3 (by omega)
  have n4 := NC 4 (by omega)
  have n5 := NC 5 (by omega)
  have n6 := NC 6 (by omega)
  have n7 := NC 7 (by omega)
  have n8 := NC 8 (by omega)
  have n9 := NC 9 (by omega)
  have n10 := NC 10 (by omega)
  have n11 := NC 11 (by omega)
  have n12 := NC 12 (by omega)
  have n13 := NC 13 (by omega)
  have n14 := NC 14 (by omega)
  simp [nagg] at n0 n1 n2 n3 n4 n5 n6 n7 n8 n9 n10 n11 n12 n13 n14
  clear NC
  obtain ⟨W, hW⟩ : ∃ W, W = (w.alloc (.cells #[.bool false, .int .i64 0, .int .i64 0] 118)).alloc (.cells (nagg ⟨1, sz, S, le, co, en, o, t⟩) 92) := ⟨_, rfl⟩
  have BW : Below w.heap.size w W := by rw [hW]; exact ((Below.refl _ _).alloc (Nat.le_refl _) _).alloc (by simp) _
  have hWs : W.heap.size = w.heap.size + 1 + 1 := by rw [hW]; simp
  have b0 : W.heap[w.heap.size]? = some (.cells #[.bool false, .int .i64 0, .int .i64 0] 118 (0, 0)) := by rw [hW]; exact heap_at_old (heap_at_new rfl)
  have b1 : W.heap[w.heap.size + 1]? = some (.cells (nagg ⟨1, sz, S, le, co, en, o, t⟩) 92 (0, 0)) := by rw [hW]; exact heap_at_new (by simp)
  have hin1 := hin.below BW
  have KC := nagg_cells b1
  have k0 := KC 0 (by omega)
  have k2 := KC 2 (by omega)
  have k3 := KC 3 (by omega)
  have k4 := KC 4 (by omega)
  have k5 := KC 5 (by omega)
  have k6 := KC 6 (by omega)
  have k7 := KC 7 (by omega)
  have k8 := KC 8 (by omega)
  have k9 := KC 9 (by omega)
  simp [nagg] at k0 k2 k3 k4 k5 k6 k7 k8 k9
  clear KC
  unfold nagg at hW
  simp only [show ((0 : Nat) : Int) = 0 from rfl, show ((1 : Nat) : Int) = 1 from rfl, show ((2 : Nat) : Int) = 2 from rfl, show ((3 : Nat) : Int) = 3 from rfl, show ((4 : Nat) : Int) = 4 from rfl] at hW
  go_enter Try.func71, Try.ntmps71
  go_upto_region 2 with fail
  rw [← hW]
  clear hW n0 n1 n2 n3 n4 n5 n6 n7 n8 n9 n10 n11 n12 n13 n14
  have HC := addSpot_ok bm vb n beh rdr S W hn hin1.mach
  unfold bools8 at HC
  go_wp2_with fail
  refine HC.mono ?_
  clear HC
  rintro e w1 ⟨rfl, vb', hm1, ht1, ho1⟩
  have hz1 := ht1.size
  have bb := keep_blk hin1.mach ht1 b0 (by omega) (by decide)
  have hb' : ∀ p, p < n → (if p = n then 0 else beh p) = beh p := fun p hp => if_neg (by omega)
  have hb2 : ∀ (x c q : Nat), (if S c then rdr c ||| 2 ^ n else rdr c).testBit q = (if q = n then (S c || (rdr c).testBit n) else (rdr c).testBit q) := by
    intro x c q
    by_cases hq : q = n
    · subst hq
      rw [if_pos rfl]
      cases S c
      · simp
      · simp [Nat.testBit_or, Nat.testBit_two_pow]
    · rw [if_neg hq]
      cases S c
      · simp
      · have : ¬ n = q := fun e => hq e.symm
        simp [Nat.testBit_or, Nat.testBit_two_pow, this]
  have hL : Lays bm vb n beh rdr w vb' (n + 1) (fun p => if p = n then 0 else beh p) (fun c => if S c then rdr c ||| 2 ^ n else rdr c) w1 := by
    refine Lays.pre ⟨hm1, fun c q hq => ?_, fun p hp => hb' p hp, fun p c hp => ?_, ht1, ho1⟩ BW
    · rw [hb2 0 c q, if_neg (by omega)]; exact hin.fresh c q (by omega)
    · rw [hb2 0 c p, if_neg (by omega)]
  have hS : StrOk (fun c => if S c then rdr c ||| 2 ^ n else rdr c) (fun p => if p = n then 0 else beh p) n (n + 1) false (2 ^ n) (2 ^ n) (Pat.one S).lang := by
    refine StrOk.spot (by simp) (fun c => ?_)
    rw [hb2 0 c n, if_pos rfl, hin.fresh c n (Nat.le_refl _)]
    simp
  obtain ⟨pw, HPW⟩ : ∃ x, Hid (2 ^ n = x) := ⟨2 ^ n, rfl⟩
  have HL : Hid (Lays bm vb n beh rdr w vb' (n + 1) (fun p => if p = n then 0 else beh p) (fun c => if S c then rdr c ||| 2 ^ n else rdr c) w1) := hL
  have HS : Hid (StrOk (fun c => if S c then rdr c ||| 2 ^ n else rdr c) (fun p => if p = n then 0 else beh p) n (n + 1) false (2 ^ n) (2 ^ n) (Pat.one S).lang) := hS
  clear hb2 hb' hS hL hm1 ht1 ho1 hin1
  rw [HPW.out]
  obtain ⟨q0, q1, q2, p0, p1, p2⟩ := cell_three' bb
  obtain ⟨hL9, hb9⟩ := lays_set HL.out bb (Nat.le_refl _) (by omega) (by decide) (.bool false) (.int .i64 (pw : Int)) (.int .i64 (pw : Int))
  obtain ⟨r0, r1, r2, _, _, _⟩ := cell_three' hb9
  have HR0 : Hid _ := r0
  have HR1 : Hid _ := r1
  have HR2 : Hid _ := r2
  clear r0 r1 r2 hb9
  go_wp2_with fail
  have r0 := HR0.out
  have r1 := HR1.out
  have r2 := HR2.out
  refine bodyPost_ret (v := .agg #[.bool false, .int .i64 (pw : Int), .int .i64 (pw : Int)]) (by simp [results, Try.results71, go_sem, r0, r1, r2]) rfl ?_
  refine ⟨false, 2 ^ n, 2 ^ n, vb', _, _, by rw [HPW.out], hL9, HS.out⟩
set_option maxRecDepth 20000 in
set_option maxHeartbeats 8000000 in
theorem lay_chain (a b : Pat) (HA : LayC a) (HB : LayC b) (L : List Nd) (gn cap i bm : Nat) (vb : Value) (n : Nat) (beh rdr : Nat → Nat) (w : World) (sz : Nat) (S : Nat → Bool) (le co : Nat) (en : Bool) (o t : Nat) (hd : L[i]? = some ⟨2, sz, S, le, co, en, o, t⟩) (ha : NodeIs L o a) (hb : NodeIs L t b) (hin : LayIn w gn bm L vb n beh rdr) (hn : n + (a.size + b.size) ≤ 11) :
    Calls Try.prog 71 #[.pointer (some ⟨bm, 0, none⟩), .slice (some ⟨gn, 0, none⟩) L.length cap, .int .i64 (i : Int)] w (LayPost bm vb n beh rdr (.chain a b) w) := by
  have hlt : i < L.length := (List.getElem?_eq_some_iff.1 hd).1
  have hbm : bm < w.heap.size := hin.mach.blk.lt
  have hgn : gn < w.heap.size := by have := hin.ahead; omega
  have hgne : ¬ gn = w.heap.size := by omega
  have NC := hin.nod i _ hd
  have n0 := NC 0 (by omega)
  have n1 := NC 1 (by omega)
  have n2 := NC 2 (by omega)
  have n3 := NC 3 (by omega)
  have n4 := NC 4 (by omega)
  have n5 := NC 5 (by omega)
  have n6 := NC 6 (by omega)
  have n7 := NC 7 (by omega)
  have n8 := NC 8 (by omega)
  have n9 := NC 9 (by omega)
  have n10 := NC 10 (by omega)
  have n11 := NC 11 (by omega)
  have n12 := NC 12 (by omega)
  have n13 := NC 13 (by omega)
  have n14 := NC 14 (by omega)
  simp [nagg] at n0 n1 n2 n3 n4 n5 n6 n7 n8 n9 n10 n11 n12 n13 n14
  clear NC
  obtain ⟨W, hW⟩ : ∃ W, W = (w.alloc (.cells #[.bool false, .int .i64 0, .int .i64 0] 118)).alloc (.cells (nagg ⟨2, sz, S, le, co, en, o, t⟩) 92) := ⟨_, rfl⟩
  have BW : Below w.heap.size w W := by rw [hW]; exact ((Below.refl _ _).alloc (Nat.le_refl _) _).alloc (by simp) _
  have hWs : W.heap.size = w.heap.size + 1 + 1 := by rw [hW]; simp
  have b0 : W.heap[w.heap.size]? = some (.cells #[.bool false, .int .i64 0, .int .i64 0] 118 (0, 0)) := by rw [hW]; exact heap_at_old (heap_at_new rfl)
  have b1 : W.heap[w.heap.size + 1]? = some (.cells (nagg ⟨2, sz, S, le, co, en, o, t⟩) 92 (0, 0)) := by rw [hW]; exact heap_at_new (by simp)
  have hin1 := hin.below BW
  have KC := nagg_cells b1
  have k0 := KC 0 (by omega)
  have k13 := KC 13 (by omega)
  have k14 := KC 14 (by omega)
  simp [nagg] at k0 k13 k14
  clear KC
  unfold nagg at hW
  simp only [show ((0 : Nat) : Int) = 0 from rfl, show ((1 : Nat) : Int) = 1 from rfl, show ((2 : Nat) : Int) = 2 from rfl, show ((3 : Nat) : Int) = 3 from rfl, show ((4 : Nat) : Int) = 4 from rfl] at hW
  go_enter Try.func71, Try.ntmps71
  go_upto_region 2 with fail
  rw [← hW]
  clear hW n0 n1 n2 n3 n4 n5 n6 n7 n8 n9 n10 n11 n12 n13 n14
  have HC := HA L gn cap o bm vb n beh rdr W ha hin1 (by omega)
  go_wp2_with fail
  refine HC.mono ?_
  clear HC
  rintro e w1 ⟨e1, F1, L1, vb1, beh1, rdr1, rfl, hl1, hs1⟩
  have c0 := keep_blk hin1.mach hl1.touch b0 (by omega) (by decide)
  have c1 := keep_blk hin1.mach hl1.touch b1 (by omega) (by decide)
  have hz1 := hl1.touch.size
  obtain ⟨W1, hW1⟩ : ∃ W, W = w1.alloc (.cells #[.bool e1, .int .i64 (F1 : Int), .int .i64 (L1 : Int)] 118) := ⟨_, rfl⟩
  have BW1 : Below w1.heap.size w1 W1 := by rw [hW1]; exact (Below.refl _ _).alloc (Nat.le_refl _) _
  have d2 : W1.heap[w1.heap.size]? = some (.cells #[.bool e1, .int .i64 (F1 : Int), .int .i64 (L1 : Int)] 118 (0, 0)) := by rw [hW1]; exact heap_at_new rfl
  have hWs1 : W1.heap.size = w1.heap.size + 1 := by rw [hW1]; simp
  have hL1 : Lays bm vb n beh rdr w vb1 (n + a.size) beh1 rdr1 W1 := (hl1.pre BW).grow BW1
  have hin2 : LayIn W1 gn bm L vb1 (n + a.size) beh1 rdr1 := hin.laid hL1 (by omega)
  have d0 := (BW1.block _ (heap_lt c0)).trans c0
  have d1 := (BW1.block _ (heap_lt c1)).trans c1
  have KC := nagg_cells d1
  have k14' := KC 14 (by omega)
  have k13' := KC 13 (by omega)
  simp [nagg] at k14' k13'
  clear KC k0 k13 k14 b0 b1 c0 c1
  have HC := HB L gn cap t bm vb1 (n + a.size) beh1 rdr1 W1 hb hin2 (by omega)
  go_upto_region 8 with fail
  rw [← hW1]
  clear hW1
  go_wp2_with fail
  refine HC.mono ?_
  clear HC
  rintro e w2 ⟨e2, F2, L2, vb2, beh2, rdr2, rfl, hl2, hs2⟩
  have f0 := keep_blk hin2.mach hl2.touch d0 (by omega) (by decide)
  have f2 := keep_blk hin2.mach hl2.touch d2 (by omega) (by decide)
  have hz2 := hl2.touch.size
  obtain ⟨W2, hW2⟩ : ∃ W, W = w2.alloc (.cells #[.bool e2, .int .i64 (F2 : Int), .int .i64 (L2 : Int)] 118) := ⟨_, rfl⟩
  have BW2 : Below w2.heap.size w2 W2 := by rw [hW2]; exact (Below.refl _ _).alloc (Nat.le_refl _) _
  have g3 : W2.heap[w2.heap.size]? = some (.cells #[.bool e2, .int .i64 (F2 : Int), .int .i64 (L2 : Int)] 118 (0, 0)) := by rw [hW2]; exact heap_at_new rfl
  have hWs2 : W2.heap.size = w2.heap.size + 1 := by rw [hW2]; simp
  have hL2 : Lays bm vb n beh rdr w vb2 (n + a.size + b.size) beh2 rdr2 W2 := hL1.trans (hl2.grow BW2) (by omega)
  have g0 := (BW2.block _ (heap_lt f0)).trans f0
  have g2 := (BW2.block _ (heap_lt f2)).trans f2
  have hs1' := hs1.laid hl2
  have hF1 := hs1'.F_lt (by omega)
  have hLL1 := hs1'.L_lt (by omega)
  have hF2 := hs2.F_lt (by omega)
  have hLL2 := hs2.L_lt (by omega)
  clear d0 d1 d2 k13' k14' f0 f2
  obtain ⟨s0, s1, s2, _, _, _⟩ := cell_three' g2
  obtain ⟨u0, u1, u2, _, _, _⟩ := cell_three' g3
  obtain ⟨gb, cap2, rfl⟩ := hL2.mach.slice (by have := hin.pos; omega)
  have HC := mchain_ok bm gb (n + a.size + b.size) cap2 beh2 rdr2 e1 e2 F1 L1 F2 L2 W2 (by omega) hL2.mach hF1 hLL1 hF2 hLL2
  obtain ⟨F3, HF3⟩ : ∃ x, Hid ((if e1 then F1 ||| F2 else F1) = x) := ⟨_, rfl⟩
  obtain ⟨L3, HL3⟩ : ∃ x, Hid ((if e2 then L2 ||| L1 else L2) = x) := ⟨_, rfl⟩
  rw [HF3.out, HL3.out] at HC
  have HST : Hid (StrOk rdr2 (linkF beh2 L1 F2) n (n + a.size + b.size) (e1 && e2) F3 L3 (Cat a.lang b.lang)) := by
    have := hs1'.chain hs2
    rw [HF3.out, HL3.out] at this
    exact this
  obtain ⟨e3, HE3⟩ : ∃ x, Hid ((e1 && e2) = x) := ⟨_, rfl⟩
  rw [HE3.out] at HC HST
  go_upto_region 9 with fail
  rw [← hW2]
  clear hW2
  go_wp2_with fail
  refine HC.mono ?_
  clear HC
  rintro e w3 ⟨rfl, hm3, ht3⟩
  have hL3 : Lays bm vb n beh rdr w (.slice (some ⟨gb, 0, none⟩) (n + a.size + b.size) cap2) (n + a.size + b.size) (linkF beh2 L1 F2) rdr2 w3 := hL2.linked hm3 ht3 (fun p hp => (hs1'.la p hp).1)
  have h0 := keep_blk hL2.mach (touch_gb ht3) g0 (by omega) (by decide)
  clear hm3 ht3 hs1 hs2 hs1' hl1 hl2 g0 g2 g3 s0 s1 s2 u0 u1 u2 hin1 hin2
  obtain ⟨q0, q1, q2, p0, p1, p2⟩ := cell_three' h0
  obtain ⟨hL9, hb9⟩ := lays_set hL3 h0 (Nat.le_refl _) (by omega) (by decide) (.bool e3) (.int .i64 (F3 : Int)) (.int .i64 (L3 : Int))
  obtain ⟨r0, r1, r2, _, _, _⟩ := cell_three' hb9
  have HR0 : Hid _ := r0
  have HR1 : Hid _ := r1
  have HR2 : Hid _ := r2
  clear r0 r1 r2 hb9
  go_wp2_with fail
  have r0 := HR0.out
  have r1 := HR1.out
  have r2 := HR2.out
  refine bodyPost_ret (v := .agg #[.bool e3, .int .i64 (F3 : Int), .int .i64 (L3 : Int)]) (by simp [results, Try.results71, go_sem, r0, r1, r2]) rfl ?_
  have hsz : n + (Pat.chain a b).size = n + a.size + b.size := by simp only [Pat.size]; omega
  exact ⟨e3, F3, L3, _, _, _, rfl, by rw [hsz]; exact hL9, by rw [hsz]; exact HST.out⟩
set_option maxRecDepth 20000 in
set_option maxHeartbeats 8000000 in
theorem lay_alt (a b : Pat) (HA : LayC a) (HB : LayC b) (L : List Nd) (gn cap i bm : Nat) (vb : Value) (n : Nat) (beh rdr : Nat → Nat) (w : World) (sz : Nat) (S : Nat → Bool) (le co : Nat) (en : Bool) (o t : Nat) (hd : L[i]? = some ⟨3, sz, S, le, co, en, o, t⟩) (ha : NodeIs L o a) (hb : NodeIs L t b) (hin : LayIn w gn bm L vb n beh rdr) (hn : n + (a.size + b.size) ≤ 11) :
    Calls Try.prog 71 #[.pointer (some ⟨bm, 0, none⟩), .slice (some ⟨gn, 0, none⟩) L.length cap, .int .i64 (i : Int)] w (LayPost bm vb n beh rdr (.alt a b) w) := by
  have hlt : i < L.length := (List.getElem?_eq_some_iff.1 hd).1
  have hbm : bm < w.heap.size := hin.mach.blk.lt
  have hgn : gn < w.heap.size := by have := hin.ahead; omega
  have hgne : ¬ gn = w.heap.size := by omega
  have NC := hin.nod i _ hd
  have n0 := NC 0 (by omega)
  have n1 := NC 1 (by omega)
  have n2 := NC 2 (by omega)
  have n3 := NC 3 (by omega)
  have n4 := NC 4 (by omega)
  have n5 := NC 5 (by omega)
  have n6 := NC 6 (by omega)
  have n7 := NC 7 (by omega)
  have n8 := NC 8 (by omega)
  have n9 := NC 9 (by omega)
  have n10 := NC 10 (by omega)
  have n11 := NC 11 (by omega)
  have n12 := NC 12 (by omega)
  have n13 := NC 13 (by omega)
  have n14 := NC 14 (by omega)
  simp [nagg] at n0 n1 n2 n3 n4 n5 n6 n7 n8 n9 n10 n11 n12 n13 n14
  clear NC
  obtain ⟨W, hW⟩ : ∃ W, W = (w.alloc (.cells #[.bool false, .int .i64 0, .int .i64 0] 118)).alloc (.cells (nagg ⟨3, sz, S, le, co, en, o, t⟩) 92) := ⟨_, rfl⟩
  have BW : Below w.heap.size w W := by rw [hW]; exact ((Below.refl _ _).alloc (Nat.le_refl _) _).alloc (by simp) _
  have hWs : W.heap.size = w.heap.size + 1 + 1 := by rw [hW]; simp
  have b0 : W.heap[w.heap.size]? = some (.cells #[.bool false, .int .i64 0, .int .i64 0] 118 (0, 0)) := by rw [hW]; exact heap_at_old (heap_at_new rfl)
  have b1 : W.heap[w.heap.size + 1]? = some (.cells (nagg ⟨3, sz, S, le, co, en, o, t⟩) 92 (0, 0)) := by rw [hW]; exact heap_at_new (by simp)
  have hin1 := hin.below BW
  have KC := nagg_cells b1
  have k0 := KC 0 (by omega)
  have k13 := KC 13 (by omega)
  have k14 := KC 14 (by omega)
  simp [nagg] at k0 k13 k14
  clear KC
  unfold nagg at hW
  simp only [show ((0 : Nat) : Int) = 0 from rfl, show ((1 : Nat) : Int) = 1 from rfl, show ((2 : Nat) : Int) = 2 from rfl, show ((3 : Nat) : Int) = 3 from rfl, show ((4 : Nat) : Int) = 4 from rfl] at hW
  go_enter Try.func71, Try.ntmps71
  go_upto_region 2 with fail
  rw [← hW]
  clear hW n0 n1 n2 n3 n4 n5 n6 n7 n8 n9 n10 n11 n12 n13 n14
  have HC := HA L gn cap o bm vb n beh rdr W ha hin1 (by omega)
  go_wp2_with fail
  refine HC.mono ?_
  clear HC
  rintro e w1 ⟨e1, F1, L1, vb1, beh1, rdr1, rfl, hl1, hs1⟩
  have c0 := keep_blk hin1.mach hl1.touch b0 (by omega) (by decide)
  have c1 := keep_blk hin1.mach hl1.touch b1 (by omega) (by decide)
  have hz1 := hl1.touch.size
  obtain ⟨W1, hW1⟩ : ∃ W, W = w1.alloc (.cells #[.bool e1, .int .i64 (F1 : Int), .int .i64 (L1 : Int)] 118) := ⟨_, rfl⟩
  have BW1 : Below w1.heap.size w1 W1 := by rw [hW1]; exact (Below.refl _ _).alloc (Nat.le_refl _) _
  have d2 : W1.heap[w1.heap.size]? = some (.cells #[.bool e1, .int .i64 (F1 : Int), .int .i64 (L1 : Int)] 118 (0, 0)) := by rw [hW1]; exact heap_at_new rfl
  have hWs1 : W1.heap.size = w1.heap.size + 1 := by rw [hW1]; simp
  have hL1 : Lays bm vb n beh rdr w vb1 (n + a.size) beh1 rdr1 W1 := (hl1.pre BW).grow BW1
  have hin2 : LayIn W1 gn bm L vb1 (n + a.size) beh1 rdr1 := hin.laid hL1 (by omega)
  have d0 := (BW1.block _ (heap_lt c0)).trans c0
  have d1 := (BW1.block _ (heap_lt c1)).trans c1
  have KC := nagg_cells d1
  have k14' := KC 14 (by omega)
  have k13' := KC 13 (by omega)
  simp [nagg] at k14' k13'
  clear KC k0 k13 k14 b0 b1 c0 c1
  have HC := HB L gn cap t bm vb1 (n + a.size) beh1 rdr1 W1 hb hin2 (by omega)
  go_upto_region 12 with fail
  rw [← hW1]
  clear hW1
  go_wp2_with fail
  refine HC.mono ?_
  clear HC
  rintro e w2 ⟨e2, F2, L2, vb2, beh2, rdr2, rfl, hl2, hs2⟩
  have f0 := keep_blk hin2.mach hl2.touch d0 (by omega) (by decide)
  have f2 := keep_blk hin2.mach hl2.touch d2 (by omega) (by decide)
  have hz2 := hl2.touch.size
  obtain ⟨W2, hW2⟩ : ∃ W, W = w2.alloc (.cells #[.bool e2, .int .i64 (F2 : Int), .int .i64 (L2 : Int)] 118) := ⟨_, rfl⟩
  have BW2 : Below w2.heap.size w2 W2 := by rw [hW2]; exact (Below.refl _ _).alloc (Nat.le_refl _) _
  have g3 : W2.heap[w2.heap.size]? = some (.cells #[.bool e2, .int .i64 (F2 : Int), .int .i64 (L2 : Int)] 118 (0, 0)) := by rw [hW2]; exact heap_at_new rfl
  have hWs2 : W2.heap.size = w2.heap.size + 1 := by rw [hW2]; simp
  have hL2 : Lays bm vb n beh rdr w vb2 (n + a.size + b.size) beh2 rdr2 W2 := hL1.trans (hl2.grow BW2) (by omega)
  have g0 := (BW2.block _ (heap_lt f0)).trans f0
  have g2 := (BW2.block _ (heap_lt f2)).trans f2
  have hs1' := hs1.laid hl2
  have hF1 := hs1'.F_lt (by omega)
  have hLL1 := hs1'.L_lt (by omega)
  have hF2 := hs2.F_lt (by omega)
  have hLL2 := hs2.L_lt (by omega)
  clear d0 d1 d2 k13' k14' f0 f2
  obtain ⟨s0, s1, s2, _, _, _⟩ := cell_three' g2
  obtain ⟨u0, u1, u2, _, _, _⟩ := cell_three' g3
  have ho1 := bits_or_i64 F1 F2 hF1 hF2
  have ho2 := bits_or_i64 L1 L2 hLL1 hLL2
  have HST : Hid (StrOk rdr2 beh2 n (n + a.size + b.size) (e1 || e2) (F1 ||| F2) (L1 ||| L2) (fun x => a.lang x ∨ b.lang x)) := hs1'.alt hs2
  obtain ⟨F3, HF3⟩ : ∃ x, Hid (F1 ||| F2 = x) := ⟨_, rfl⟩
  obtain ⟨L3, HL3⟩ : ∃ x, Hid (L1 ||| L2 = x) := ⟨_, rfl⟩
  rw [HF3.out] at ho1 HST
  rw [HL3.out] at ho2 HST
  clear hs1 hs2 hs1' hl1 hl2 g2 g3 hin1 hin2
  have na : ¬ w.heap.size = w2.heap.size := by omega
  have nb : ¬ w1.heap.size = w2.heap.size := by omega
  obtain ⟨q0, q1, q2, p0, p1, p2⟩ := cell_three' g0
  obtain ⟨hL9, hb9⟩ := lays_set hL2 g0 (Nat.le_refl _) (by omega) (by decide) (.bool (e1 || e2)) (.int .i64 (F3 : Int)) (.int .i64 (L3 : Int))
  obtain ⟨r0, r1, r2, _, _, _⟩ := cell_three' hb9
  have HR0 : Hid _ := r0
  have HR1 : Hid _ := r1
  have HR2 : Hid _ := r2
  clear r0 r1 r2 hb9
  go_upto_region 13 with fail
  rw [← hW2]
  clear hW2
  cases e1
  · simp only [Bool.false_or] at *
    go_wp2_with fail
    have r0 := HR0.out
    have r1 := HR1.out
    have r2 := HR2.out
    refine bodyPost_ret (v := .agg #[.bool e2, .int .i64 (F3 : Int), .int .i64 (L3 : Int)]) (by simp [results, Try.results71, go_sem, r0, r1, r2]) rfl ?_
    have hsz : n + (Pat.alt a b).size = n + a.size + b.size := by simp only [Pat.size]; omega
    exact ⟨e2, F3, L3, _, _, _, rfl, by rw [hsz]; exact hL9, by rw [hsz]; exact HST.out⟩
  · simp only [Bool.true_or] at *
    go_wp2_with fail
    have r0 := HR0.out
    have r1 := HR1.out
    have r2 := HR2.out
    refine bodyPost_ret (v := .agg #[.bool true, .int .i64 (F3 : Int), .int .i64 (L3 : Int)]) (by simp [results, Try.results71, go_sem, r0, r1, r2]) rfl ?_
    have hsz : n + (Pat.alt a b).size = n + a.size + b.size := by simp only [Pat.size]; omega
    exact ⟨true, F3, L3, _, _, _, rfl, by rw [hsz]; exact hL9, by rw [hsz]; exact HST.out⟩
end Go.Proofs.Ytpngikmcjkjdaab
