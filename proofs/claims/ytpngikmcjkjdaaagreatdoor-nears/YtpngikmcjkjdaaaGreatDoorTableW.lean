import Derived.Test.YtpngikmcjkjdaaaGreatDoorWorldP
import Derived.Test.YtpngikmcjkjdaaaGreatDoorStep
import Derived.Test.YtpngikmcjkjdaaaGreatDoorRefLN
import Derived.Test.YtpngikmcjkjdaaaGreatDoorJoinNo2
namespace Go.Proofs.YtpngikmcjkjdaaaGreatDoor
open Go.RowKit
set_option linter.unusedVariables false

/-- A table that came out, with all its room. -/
def Lay.tl (V : Lay) (n : Nat) : TL := ⟨V.ba, n, n, V.bn, n, n, V.rb, fun _ => 8, fun _ => 8⟩
theorem rowTo_of {w : World} {b t n : Nat} {f : Nat → Value} (hs : ∃ c, w.heap[b]? = some (.cells c t (0, 0)) ∧ n ≤ c.size) (hc : ∀ i, i < n → w.cell? ⟨b, i, none⟩ = some (f i)) : RowTo w b t n f := by
  obtain ⟨c, hb, hn⟩ := hs
  refine ⟨c, hb, hn, fun i hi => ?_⟩
  have := hc i hi
  rw [cell_of_row w b i c t (0, 0) hb] at this
  exact this
theorem tl_of_fresh {w : World} {V : Lay} {R : Tab} (hT : TabAt w V R) (hF : Fresh w V R.n) (h1 : 1 ≤ R.n) (h2 : R.n ≤ 40) : TLAt w (V.tl R.n) R.acc (fun i c => (R.nxt i c : Int)) where
  na := Nat.le_refl _
  ca := by show R.n ≤ _; omega
  ca1 := h1
  nn := Nat.le_refl _
  cn := by show R.n ≤ _; omega
  cn1 := h1
  rl i _ := Nat.le_refl _
  rc i _ := by show 8 ≤ 1000000; omega
  acc := rowTo_of hF.sa (fun i hi => by have := hT.acc i hi; rw [hF.oa, Nat.zero_add] at this; exact this)
  nxt := rowTo_of hF.sn (fun i hi => by
    have := hT.row i hi
    rw [hF.on, Nat.zero_add, (hF.ro i hi).1, (hF.ro i hi).2] at this
    exact this)
  row i hi _ := rowTo_of (hF.sr i hi) (fun c hc => by have := hT.cel i c hi hc; rw [(hF.ro i hi).1, Nat.zero_add] at this; exact this)
theorem tab_raw {w : World} {V : Lay} {R : Tab} (hT : TabAt w V R) (h2 : R.n ≤ 40) : RawAt w ⟨some ⟨V.ba, V.oa, none⟩, some ⟨V.bn, V.on, none⟩, R.n, V.ca, R.n, V.cn, fun i => some ⟨V.rb i, V.ro i, none⟩, fun _ => 8, V.rc⟩ R.acc (fun i c => (R.nxt i c : Int)) where
  la := by show R.n ≤ _; omega
  ln := by show R.n ≤ _; omega
  lr i _ := by show 8 ≤ _; omega
  acc i hi := ⟨_, _, rfl, hT.acc i hi⟩
  row i hi := ⟨_, _, rfl, hT.row i hi⟩
  cel i c hi hc := ⟨_, _, rfl, hT.cel i c hi hc⟩
theorem RawAt.congr {w : World} {r : RLay} {A A' : Nat → Bool} {X X' : Nat → Nat → Int} (h : RawAt w r A X) (hA : ∀ i, i < r.na → A i = A' i) (hX : ∀ i c, i < r.nn → c < r.rl i → X i c = X' i c) : RawAt w r A' X' where
  la := h.la
  ln := h.ln
  lr := h.lr
  acc i hi := by obtain ⟨b, o, e, hc⟩ := h.acc i hi; exact ⟨b, o, e, by rw [hc, hA i hi]⟩
  row := h.row
  cel i c hi hc := by obtain ⟨b, o, e, hcc⟩ := h.cel i c hi hc; exact ⟨b, o, e, by rw [hcc, hX i c hi hc]⟩

/-- All that stood is as it was, but for the world's own variable and its list. -/
def Kept (bw : Nat) (vts : Value) (w w' : World) : Prop := ∀ k, k < w.heap.size → k ≠ bw → vts.ownBlock ≠ some k → w'.heap[k]? = w.heap[k]?
theorem Kept.of_below {bw : Nat} {vts : Value} {w w' : World} (h : Below w.heap.size w w') : Kept bw vts w w' := fun k hk _ _ => h.block k hk
theorem Kept.from {bw : Nat} {vts : Value} {w w1 w' : World} (h : Below w.heap.size w w1) (h' : Kept bw vts w1 w') : Kept bw vts w w' := fun k hk h1 h2 => (h' k (by have := h.size; omega) h1 h2).trans (h.block k hk)
theorem eqNilIn {P : Program} {t e : TypeId} (d : Nat) (hu : P.underlying t = some (.slice e)) (w : World) : Sem.run P (Op.equalIn (d + 1) t (.slice none 0 0) (.slice none 0 0)) w = .ok true w := by
  simp only [Op.equalIn, Sem.run_bind, run_underlying hu, Result.andThen_ok]; rfl
theorem eqNil {P : Program} {t e : TypeId} (hu : P.underlying t = some (.slice e)) (w : World) : Sem.run P (binOp .eql t (.slice none 0 0) (.slice none 0 0)) w = .ok (.bool true) w := by
  have h := eqNilIn 9999 hu w
  show Sem.run P (do pure (Value.bool (← Op.equalIn (9999 + 1) t (Value.slice none 0 0) (Value.slice none 0 0)))) w = _
  rw [Sem.run_bind, h]; rfl
set_option maxRecDepth 20000 in
set_option maxHeartbeats 2000000 in
theorem table_err (bw : Nat) (er : Int) (w : World) (he : er ≠ 0) :
    Calls Tryz.prog 29 #[.pointer (some ⟨bw, 0, none⟩), .agg #[.slice none 0 0, .slice none 0 0], .int .i64 er, .agg #[.slice none 0 0, .slice none 0 0], .int .i64 er] w
      fun e w' => e = .returned (.bool true) ∧ Below w.heap.size w w' := by
  have B1 : Below w.heap.size w ((w.alloc (.cells #[.slice none 0 0, .slice none 0 0] 41)).alloc (.cells #[.slice none 0 0, .slice none 0 0] 41)) := ((Below.refl _ _).alloc (Nat.le_refl _) _).alloc (by simp) _
  have h1 : (er != er) = false := by simp
  have z1 := eqNil Tryz.underlying38 ((w.alloc (.cells #[.slice none 0 0, .slice none 0 0] 41)).alloc (.cells #[.slice none 0 0, .slice none 0 0] 41))
  have z2 := eqNil Tryz.underlying39 ((w.alloc (.cells #[.slice none 0 0, .slice none 0 0] 41)).alloc (.cells #[.slice none 0 0, .slice none 0 0] 41))
  have h2 : (er != 0) = true := by simp [he]
  go_enter Tryz.func29, Tryz.ntmps29
  go_wp2_with fail
  go_ret
  exact ⟨rfl, B1⟩

set_option maxRecDepth 20000 in
set_option maxHeartbeats 4000000 in
theorem table_ok (W0 wa w : World) (bw : Nat) (vts : Value) (hs : List Hd) (h : WdAt W0 wa bw vts hs) (hB : Below wa.heap.size wa w) (hn : hs.length ≤ 4398046511104)
    (V U : Lay) (R Q : Tab) (L : List Nat → Bool) (hR : IsLeast R L) (hQ : IsLeast Q L) (hT : TabAt w V R) (hFr : Fresh w V R.n) (hF : V.From wa.heap.size R.n) (hU : TabAt w U Q) (hR40 : R.n ≤ 40) :
    Calls Tryz.prog 29 #[.pointer (some ⟨bw, 0, none⟩), .agg #[.slice (some ⟨V.ba, V.oa, none⟩) R.n V.ca, .slice (some ⟨V.bn, V.on, none⟩) R.n V.cn], .int .i64 0, .agg #[.slice (some ⟨U.ba, U.oa, none⟩) Q.n U.ca, .slice (some ⟨U.bn, U.on, none⟩) Q.n U.cn], .int .i64 0] w
      (fun e w' => StepPost W0 bw hs.length e w' ∧ Kept bw vts wa w') := by
  have hS := least_unique hR hQ
  have hR1 := hR.num.pos
  rw [← hS.n]
  rw [show V.oa = 0 from hFr.oa, show V.on = 0 from hFr.on, show V.ca = R.n from hFr.ca, show V.cn = R.n from hFr.cn]
  obtain ⟨i0, hi0, hz0, hz01, hz02⟩ := info_parts Tryz.infoH
  obtain ⟨W, hW⟩ : ∃ W, W = (w.alloc (.cells #[.slice (some ⟨V.ba, 0, none⟩) R.n R.n, .slice (some ⟨V.bn, 0, none⟩) R.n R.n] 41)).alloc (.cells #[.slice (some ⟨U.ba, U.oa, none⟩) R.n U.ca, .slice (some ⟨U.bn, U.on, none⟩) R.n U.cn] 41) := ⟨_, rfl⟩
  have BW : Below w.heap.size w W := by rw [hW]; exact ((Below.refl _ _).alloc (Nat.le_refl _) _).alloc (by simp) _
  have hWs : w.heap.size + 1 < W.heap.size := by rw [hW]; simp
  have b0 : W.heap[w.heap.size]? = some (.cells #[.slice (some ⟨V.ba, 0, none⟩) R.n R.n, .slice (some ⟨V.bn, 0, none⟩) R.n R.n] 41 (0, 0)) := by rw [hW]; exact heap_at_old (heap_at_new (by simp))
  have b1 : W.heap[w.heap.size + 1]? = some (.cells #[.slice (some ⟨U.ba, U.oa, none⟩) R.n U.ca, .slice (some ⟨U.bn, U.on, none⟩) R.n U.cn] 41 (0, 0)) := by rw [hW]; exact heap_at_new (by simp)
  have hTL := tl_of_fresh hT hFr hR1 hR40
  have hTL1 := hTL.below BW
  have r1 := hTL1.raw
  have r2 := ((tab_raw hU (by rw [← hS.n]; exact hR40)).below BW).congr (A' := R.acc) (X' := fun i c => (R.nxt i c : Int)) (fun i hi => (hS.acc i (by rw [hS.n]; exact hi)).symm) (fun i c hi hc => by
    have := hS.nxt i c (by rw [hS.n]; exact hi) hc
    rw [this])
  rw [← hS.n] at r2
  have HC := lsame_ok _ _ _ _ _ _ _ _ _ _ _ _ _ _ _ R.acc (fun i c => (R.nxt i c : Int)) W r1 r2
  have hsz := hB.size
  have hab : Below wa.heap.size wa W := hB.trans (BW.mono (by omega))
  obtain ⟨x0, x1, _, _⟩ := cell_two b0
  obtain ⟨x2, x3, _, _⟩ := cell_two b1
  have HTL : Hid _ := hTL1
  have HFF : Hid _ := hF
  have HFI : Hid (∀ i j, i < j → j < R.n → V.rb i ≠ V.rb j) := hFr.inj
  try simp only [Lay.tl] at HC
  clear hTL hTL1 r1 r2 hS hR hQ hT hU hFr hF
  go_enter Tryz.func29, Tryz.ntmps29
  go_upto_region 1 with fail
  rw [← hW]
  clear hW
  go_wp2_with fail
  refine HC.mono ?_
  clear HC
  rintro e w1 ⟨rfl, hB1⟩
  have hs1 := hB1.size
  have c0 := (hB1.block _ (by omega)).trans b0
  obtain ⟨x0, x1, _, _⟩ := cell_two c0
  have HC := hold_ok (V.tl R.n) R.acc (fun i c => (R.nxt i c : Int)) wa.heap.size w1 (HTL.out.below hB1) HFF.out.a HFF.out.b (fun j hj _ => HFF.out.r j hj) (fun i j hij hj _ _ => HFI.out i j hij hj)
  simp only [Lay.tl] at HC
  have hab1 : Below wa.heap.size wa w1 := hab.trans (hB1.mono (by omega))
  clear x2 x3 b0 b1 c0 hB1
  go_wp2_with fail
  refine HC.mono ?_
  clear HC
  rintro e w2 ⟨hB2, dd, rfl, hD, _, _, _, hlo, _⟩
  have hs2 := hB2.size
  have hBa : Below wa.heap.size wa w2 := hab1.trans (hB2.mono (by omega))
  have h2 := h.below hBa
  obtain ⟨y0, y1, y2, y3⟩ := cell_three h2.blk
  have hbs := heap_lt h2.blk
  have hna := (h2.below ((Below.refl _ _).alloc (Nat.le_refl _) (.cells #[.pointer (some ⟨dd.bh, 0, none⟩)] 36))).own
  have HG : ∀ (g cap : Nat) (w3 : World), w3.ownsRow (bw + 1) 36 1 (.slice (some ⟨g, 0, none⟩) (hs.length + 1) cap) (hs.length + 1) (ptrs hs ++ [.pointer (some ⟨dd.bh, 0, none⟩)]) → (w2.alloc (.cells #[.pointer (some ⟨dd.bh, 0, none⟩)] 36)).grownBy w3 vts.ownBlock → (vts.ownBlock = some g ∨ g = (w2.alloc (.cells #[.pointer (some ⟨dd.bh, 0, none⟩)] 36)).heap.size) →
      w3.heap[bw]? = some (.cells #[vts, .slice none 0 0, .slice none 0 0] 31 (0, 0)) ∧ Hid (WdAt W0 (w3.setCell ⟨bw, 0, none⟩ (.slice (some ⟨g, 0, none⟩) (hs.length + 1) cap)) bw (.slice (some ⟨g, 0, none⟩) (hs.length + 1) cap) (hs ++ [dd])) ∧ Hid (Kept bw vts wa (w3.setCell ⟨bw, 0, none⟩ (.slice (some ⟨g, 0, none⟩) (hs.length + 1) cap))) := by
    intro g cap w3 ho hg hf
    obtain ⟨k1, k2⟩ := h.add hBa hD (by omega) ho hg hf
    refine ⟨k1, k2, fun k hk hb hv => ?_⟩
    have hk2 : k < w2.heap.size := by have := hBa.size; omega
    have e1 : (w3.setCell ⟨bw, 0, none⟩ (.slice (some ⟨g, 0, none⟩) (hs.length + 1) cap)).heap[k]? = w3.heap[k]? := by simp [World.setCell, Array.getElem?_modify, Ne.symm hb]
    rw [e1, hg.block k (by simp; omega) (fun e => hv e.symm), ← hBa.block k hk]
    exact ((Below.refl w2.heap.size w2).alloc (Nat.le_refl _) _).block k hk2
  clear hB2 x0 x1
  go_wp2_with (at_builtin; refine wpList_append_fresh _ rfl _ _ 27 rfl (bw + 1) 36 i0 (.pointer none) 1 8 Tryz.underlying27 hi0 hz0 hz01 hz02 rfl (by decide) _ hs.length _ rfl hna ⟨w2.heap.size, 0, none⟩ 1 1 [.pointer (some ⟨dd.bh, 0, none⟩)] rfl rfl (cell_one_new _ _ _) (by intro u hu; simp at hu; subst hu; rfl) (by decide) (by unfold maxLen; omega) (by omega) (by simp; omega) ?_; intro g cap w3 hown hgr hfr; obtain ⟨f0, F, FK⟩ := HG g cap w3 hown hgr hfr; obtain ⟨f1, f2, f3, f4⟩ := cell_three f0)
  go_ret
  exact ⟨⟨rfl, _, _, F.out, by simp⟩, FK.out⟩
end Go.Proofs.YtpngikmcjkjdaaaGreatDoor
