import Derived.Test.YtpngikmcjkjdaabSplitP
import Derived.Test.YtpngikmcjkjdaabTwo
namespace Go.Proofs.Ytpngikmcjkjdaab
open Go.RowKit
set_option linter.unusedVariables false

def ints (l : List Nat) : List Value := l.map fun k : Nat => .int .i64 (k : Int)
theorem heap_at_new {w : World} {o : Obj} {k : Nat} (h : k = w.heap.size) : (w.alloc o).heap[k]? = some o := by subst h; exact heap_alloc_new w o
theorem heap_at_old {w : World} {o o' : Obj} {k : Nat} (h : w.heap[k]? = some o') : (w.alloc o).heap[k]? = some o' := by rw [Below.heap_alloc w o k (heap_lt h)]; exact h
theorem cell_one_set (w : World) (a : Addr) (u v : Value) (t : TypeId) : ∀ j x, [v][j]? = some x → ((w.setCell a u).alloc (.cells #[v] t)).cell? ((⟨w.heap.size, 0, none⟩ : Addr).add j) = some x := by
  have h := cell_one_new (w.setCell a u) v t
  have hs : (w.setCell a u).heap.size = w.heap.size := by simp [World.setCell]
  rw [hs] at h
  exact h
theorem ints_snoc (l : List Nat) (x : Nat) : ints l ++ [.int .i64 (x : Int)] = ints (l ++ [x]) := by simp [ints]
theorem ints_at {w : World} {g n : Nat} {l : List Nat} (hl : l.length = n) (h : ∀ j, j < n * 1 → w.cell? ⟨g, j, none⟩ = (ints l)[j]?) : NatsAt w g n (fun i => l.getD i 0) := by
  intro i hi
  rw [h i (by omega)]
  simp [ints, List.getD_eq_getElem?_getD, List.getElem?_eq_getElem (show i < l.length by omega)]
theorem Try.info3 : (Try.prog.info? 3).map (fun i => (i.zero, i.size, i.bytes)) = some (some (.int .i64 0), 1, 8) := by kernel_rfl

/-- What a split answers. -/
def SplitPost (M : Tab) (f : Nat → Nat) (most : Nat) (w : World) (e : Ending) (w' : World) : Prop :=
  Below w.heap.size w w' ∧ ∃ vo gh ch os hs, e = .returned (.agg #[vo, .slice (some ⟨gh, 0, none⟩) hs.length ch]) ∧ w.heap.size ≤ gh ∧ NatsAt w' gh hs.length (fun i => hs.getD i 0) ∧
    ((hs.length ≤ most ∧ (∃ go co, vo = .slice (some ⟨go, 0, none⟩) M.n co ∧ w.heap.size ≤ go ∧ NatsAt w' go M.n (fun i => os.getD i 0)) ∧ SplitRel M f M.n os hs) ∨
     (hs.length = most + 1 ∧ (∃ ao lo co, vo = .slice ao lo co) ∧ (∀ c, c < hs.length → hs.getD c 0 < M.n) ∧ ∀ c d, c < d → d < hs.length → alikeB M f (hs.getD c 0) (hs.getD d 0) = false))

set_option maxRecDepth 20000 in
set_option maxHeartbeats 2000000 in
theorem split_ok (gw ga ca gn cn go co l0 c0 : Nat) (h0 : Option Addr) (M : Tab) (f : Nat → Nat) (most : Nat) (w : World) (hM : WideAt w gw ga ca gn cn M) (hf : NatsAt w go M.n f)
    (hm0 : 1 ≤ most) (hm1 : most ≤ 40) (hn0 : 1 ≤ M.n) (hn : M.n ≤ 100000000) (hnx : ∀ i c, i < M.n → c < 8 → M.nxt i c < M.n) :
    Calls Try.prog 91 #[.pointer (some ⟨gw, 0, none⟩), .agg #[.slice (some ⟨go, 0, none⟩) M.n co, .slice h0 l0 c0], .int .i64 most] w
      (SplitPost M f most w) := by
  obtain ⟨i0, hi, hz0, hz1, hz2⟩ := info_parts Try.info3
  obtain ⟨W, hW⟩ : ∃ W, W = ((w.alloc (.cells #[.slice (some ⟨go, 0, none⟩) M.n co, .slice h0 l0 c0] 149)).alloc
      (.cells #[.slice none 0 0, .slice none 0 0] 149)).alloc (.cells #[.slice none 0 0, .slice none 0 0] 149) := ⟨_, rfl⟩
  have BW : Below w.heap.size w W := by
    rw [hW]; exact (((Below.refl _ _).alloc (Nat.le_refl _) _).alloc (by simp) _).alloc (by simp; omega) _
  have hWs : W.heap.size = w.heap.size + 3 := by rw [hW]; simp
  have k2 : W.cell? ⟨w.heap.size, 0, none⟩ = some (.slice (some ⟨go, 0, none⟩) M.n co) := by rw [hW]; simp [go_sem]
  have k3 : W.cell? ⟨w.heap.size, 1, none⟩ = some (.slice h0 l0 c0) := by rw [hW]; simp [go_sem]
  have k4 : W.heap[w.heap.size + 1]? = some (.cells #[.slice none 0 0, .slice none 0 0] 149 (0, 0)) := by rw [hW]; exact heap_at_old (heap_at_new (by simp))
  have k5 : W.heap[w.heap.size + 1 + 1]? = some (.cells #[.slice none 0 0, .slice none 0 0] 149 (0, 0)) := by rw [hW]; exact heap_at_new (by simp)
  have HW := hW
  go_enter Try.func91, Try.ntmps91
  go_wp2
  rw [← hW]
  clear hW HW
  have T0 : TwoRows W (w.heap.size + 1 + 1) 149 3 1 3 1 W (.slice none 0 0) (.slice none 0 0) 0 0 [] [] :=
    ⟨Below.refl _ _, k5, World.ownsRow_nil _ _ _ _, World.ownsRow_nil _ _ _ _, by intro g h; simp [Value.ownBlock] at h⟩
  go_loopw [8, 9] (fun st _ wr => ∃ s : Nat, ∃ os hs : List Nat, ∃ vo vh : Value, s ≤ M.n ∧ st = .int .i64 s ∧ hs.length ≤ most ∧ SplitRel M f s os hs ∧
      TwoRows W (w.heap.size + 1 + 1) 149 3 1 3 1 wr vo vh s hs.length (ints os) (ints hs))
    (fun st _ _ => M.n - (intOf st).toNat)
  case atStart => exact ⟨0, [], [], _, _, by omega, rfl, by simp, SplitRel.nil M f, T0⟩
  case round =>
    obtain ⟨s, os, hs, vo, vh, hs1, rfl, hhm, hrel, hT⟩ := hrel
    clear T0
    have hbW : Below (w.heap.size + 1 + 1) W wr := hT.blw
    have hbw : Below w.heap.size w wr := BW.trans (hbW.mono (by omega))
    have x0 := (hM.below hbw).p0
    have x2 := (hbW.cell (p := ⟨w.heap.size, 0, none⟩) (by simp <;> omega)).trans k2
    have x3 := (hbW.cell (p := ⟨w.heap.size, 1, none⟩) (by simp <;> omega)).trans k3
    obtain ⟨y0, y1, z0, z1⟩ := cell_two hT.blk
    have hq : wr.heap[w.heap.size + 1]? = some (.cells #[.slice none 0 0, .slice none 0 0] 149 (0, 0)) := (hbW.block _ (by omega)).trans k4
    obtain ⟨q0, q1, p0, p1⟩ := cell_two hq
    obtain ⟨ah, ch, rfl, hah⟩ := ownsRow_shape hT.own1
    obtain ⟨ao, co', rfl, hao⟩ := ownsRow_shape hT.own0
    have hl := hrel.cls.hd
    by_cases hlt : s < M.n
    · obtain ⟨gh, hgh⟩ : ∃ gh, (0 < hs.length → ah = some ⟨gh, 0, none⟩) ∧ NatsAt wr gh hs.length (fun i => hs.getD i 0) := by
        by_cases h0 : 0 < hs.length
        · obtain ⟨g, hg, hc⟩ := hah h0
          exact ⟨g, fun _ => hg, ints_at rfl hc⟩
        · exact ⟨0, fun h => absurd h h0, fun i hi => absurd hi (by omega)⟩
      have HC := find_ok gw ga ca gn cn go co l0 c0 gh hs.length ch h0 ah M f (fun i => hs.getD i 0) s wr (hM.below hbw) (hf.below hbw) hgh.1 hgh.2 (by omega) (fun c hc => by have := (hl c hc).1; omega) hlt hn hnx
      have HT : Hid (TwoRows W (w.heap.size + 1 + 1) 149 3 1 3 1 wr (.slice ao s co') (.slice ah hs.length ch) s hs.length (ints os) (ints hs)) := hT
      have HR : Hid (SplitRel M f s os hs) := hrel
      clear hT hrel hM hf hnx hah hao hl hgh
      go_wp2_with fail
      refine HC.mono ?_
      rintro e w1 ⟨⟨r, hr, hno, hyes, rfl⟩, hb1⟩
      clear HC x0 x2 x3 y0 y1 z0 z1 hq q0 q1 p0 p1
      have hT1 := HT.out.below hb1
      have hbW1 : Below (w.heap.size + 1 + 1) W w1 := hT1.blw
      have HNO : Hid (∀ c, c < r → alikeB M f (hs.getD c 0) s = false) := hno
      have HYES : Hid (r < hs.length → alikeB M f (hs.getD r 0) s = true) := hyes
      clear hno hyes HT
      have x2 := (hbW1.cell (p := ⟨w.heap.size, 0, none⟩) (by simp <;> omega)).trans k2
      have x3 := (hbW1.cell (p := ⟨w.heap.size, 1, none⟩) (by simp <;> omega)).trans k3
      obtain ⟨y0, y1, z0, z1⟩ := cell_two hT1.blk
      have hsz := heap_lt hT1.blk
      have HT : Hid (TwoRows W (w.heap.size + 1 + 1) 149 3 1 3 1 w1 (.slice ao s co') (.slice ah hs.length ch) s hs.length (ints os) (ints hs)) := hT1
      have HB1 : Hid (Below wr.heap.size wr w1) := hb1
      have HBW : Hid (Below w.heap.size w wr) := hbw
      clear hT1 hb1 hbW1 hbw hbW
      by_cases hrl : r < hs.length
      · have hbn : ((r : Int) == (hs.length : Int)) = false := by simp; omega
        have HTa := HT.out.below ((Below.refl _ _).alloc (Nat.le_refl _) (.cells #[.int .i64 (r : Int)] 3))
        have hna := HTa.own0
        have hbo : w.heap.size + 1 + 1 + 1 ≤ (w1.alloc (.cells #[.int .i64 (r : Int)] 3)).heap.size := by simp; omega
        have HTA : Hid (TwoRows W (w.heap.size + 1 + 1) 149 3 1 3 1 (w1.alloc (.cells #[.int .i64 (r : Int)] 3)) (.slice ao s co') (.slice ah hs.length ch) s hs.length (ints os) (ints hs)) := HTa
        clear HTa
        go_wp2_with (at_builtin; refine wpList_append_fresh _ rfl _ _ 22 rfl (w.heap.size + 1 + 1 + 1) 3 i0 (.int .i64 0) 1 8 Try.underlying22 hi hz0 hz1 hz2 rfl (by decide) _ s (ints os) rfl hna ⟨w1.heap.size, 0, none⟩ 1 1 [.int .i64 (r : Int)] rfl rfl (cell_one_new _ _ _) (by intro u hu; simp at hu; subst hu; rfl) (by decide) (by unfold maxLen; omega) (by omega) hbo ?_; intro g cap w2 hown hgr hfr; obtain ⟨y0', y1', z0', z1'⟩ := cell_two (HTA.out.grown0 hgr))
        go_roundw
        case rel =>
          have hP := HTA.out.put0 hown hgr hfr
          rw [show ints os ++ [.int .i64 (r : Int)] = ints (os ++ [r]) from ints_snoc os r] at hP
          exact ⟨s + 1, os ++ [r], hs, _, _, by omega, by go_num, hhm, HR.out.old r hrl (HYES.out hrl) HNO.out, hP⟩
        case measure => simp [intOf]; omega
      · have hre : r = hs.length := by omega
        subst hre
        have HTa := HT.out.below ((Below.refl _ _).alloc (Nat.le_refl _) (.cells #[.int .i64 (s : Int)] 3))
        have hna := HTa.own1
        have hbo : w.heap.size + 1 + 1 + 1 ≤ (w1.alloc (.cells #[.int .i64 (s : Int)] 3)).heap.size := by simp; omega
        have HTA : Hid (TwoRows W (w.heap.size + 1 + 1) 149 3 1 3 1 (w1.alloc (.cells #[.int .i64 (s : Int)] 3)) (.slice ao s co') (.slice ah hs.length ch) s hs.length (ints os) (ints hs)) := HTa
        clear HTa
        have HT2 : ∀ g cap w2, w2.ownsRow (w.heap.size + 1 + 1 + 1) 3 1 (.slice (some ⟨g, 0, none⟩) (hs.length + 1) cap) (hs.length + 1) (ints hs ++ [.int .i64 (s : Int)]) →
            (w1.alloc (.cells #[.int .i64 (s : Int)] 3)).grownBy w2 (Value.slice ah hs.length ch).ownBlock → ((Value.slice ah hs.length ch).ownBlock = some g ∨ g = (w1.alloc (.cells #[.int .i64 (s : Int)] 3)).heap.size) →
            Hid (TwoRows W (w.heap.size + 1 + 1) 149 3 1 3 1 ((w2.setCell ⟨w.heap.size + 1 + 1, 1, none⟩ (.slice (some ⟨g, 0, none⟩) (hs.length + 1) cap)).alloc (.cells #[.int .i64 (hs.length : Int)] 3))
              (.slice ao s co') (.slice (some ⟨g, 0, none⟩) (hs.length + 1) cap) s (hs.length + 1) (ints os) (ints hs ++ [.int .i64 (s : Int)])) := fun g cap w2 ho hg hf =>
          (HTA.out.put1 ho hg hf).below ((Below.refl _ _).alloc (Nat.le_refl _) _)
        have q2 : ∀ g cap w2, w2.ownsRow (w.heap.size + 1 + 1 + 1) 3 1 (.slice (some ⟨g, 0, none⟩) (hs.length + 1) cap) (hs.length + 1) (ints hs ++ [.int .i64 (s : Int)]) →
            (w1.alloc (.cells #[.int .i64 (s : Int)] 3)).grownBy w2 (Value.slice ah hs.length ch).ownBlock → ((Value.slice ah hs.length ch).ownBlock = some g ∨ g = (w1.alloc (.cells #[.int .i64 (s : Int)] 3)).heap.size) →
            w2.heap[w.heap.size + 1]? = some (.cells #[.slice none 0 0, .slice none 0 0] 149 (0, 0)) := fun g cap w2 ho hg hf => by
          have h1 := hg.block (w.heap.size + 1) (by simp; omega) (fun e => by have := (HTA.out.own1.lt _ e.symm).1; omega)
          rw [h1, HTA.out.blw.block _ (by omega)]; exact k4
        by_cases hmo : hs.length + 1 ≤ most
        · have HNO2 := HNO
          go_wp2_with (first | (at_builtin; refine wpList_append_fresh _ rfl _ _ 22 rfl (w.heap.size + 1 + 1 + 1) 3 i0 (.int .i64 0) 1 8 Try.underlying22 hi hz0 hz1 hz2 rfl (by decide) _ hs.length (ints hs) rfl hna ⟨w1.heap.size, 0, none⟩ 1 1 [.int .i64 (s : Int)] rfl rfl (cell_one_new _ _ _) (by intro u hu; simp at hu; subst hu; rfl) (by decide) (by unfold maxLen; omega) (by omega) hbo ?_; intro g cap w2 hown hgr hfr; obtain ⟨y0', y1', z0', z1'⟩ := cell_two (HTA.out.grown1 hgr); have hq2 := q2 g cap w2 hown hgr hfr; obtain ⟨q0, q1, p0, p1⟩ := cell_two hq2) | (at_builtin; refine wpList_append_fresh _ rfl _ _ 22 rfl (w.heap.size + 1 + 1 + 1) 3 i0 (.int .i64 0) 1 8 Try.underlying22 hi hz0 hz1 hz2 rfl (by decide) _ s (ints os) rfl (HT2 g cap w2 hown hgr hfr).out.own0 ⟨w2.heap.size, 0, none⟩ 1 1 [.int .i64 (hs.length : Int)] rfl rfl (cell_one_set _ _ _ _ _) (by intro u hu; simp at hu; subst hu; rfl) (by decide) (by unfold maxLen; omega) (by omega) (by have := hgr.size; simp at this ⊢; omega) ?_; intro g2 cap2 w3 hown2 hgr2 hfr2; obtain ⟨y0', y1', z0', z1'⟩ := cell_two ((HT2 g cap w2 hown hgr hfr).out.grown0 hgr2)))
          go_roundw
          case rel =>
            have hP := (HT2 g cap w2 hown hgr hfr).out.put0 hown2 hgr2 hfr2
            rw [show ints os ++ [.int .i64 (hs.length : Int)] = ints (os ++ [hs.length]) from ints_snoc os _, show ints hs ++ [.int .i64 (s : Int)] = ints (hs ++ [s]) from ints_snoc hs _] at hP
            exact ⟨s + 1, os ++ [hs.length], hs ++ [s], _, _, by omega, by go_num, by simp; omega, HR.out.new HNO.out, by simpa using hP⟩
          case measure => simp [intOf]; omega
        · go_wp2_with (at_builtin; refine wpList_append_fresh _ rfl _ _ 22 rfl (w.heap.size + 1 + 1 + 1) 3 i0 (.int .i64 0) 1 8 Try.underlying22 hi hz0 hz1 hz2 rfl (by decide) _ hs.length (ints hs) rfl hna ⟨w1.heap.size, 0, none⟩ 1 1 [.int .i64 (s : Int)] rfl rfl (cell_one_new _ _ _) (by intro u hu; simp at hu; subst hu; rfl) (by decide) (by unfold maxLen; omega) (by omega) hbo ?_; intro g cap w2 hown hgr hfr; obtain ⟨y0', y1', z0', z1'⟩ := cell_two (HTA.out.grown1 hgr); have hq2 := q2 g cap w2 hown hgr hfr; obtain ⟨q0, q1, p0, p1⟩ := cell_two hq2)
          obtain ⟨r1, r2, r3⟩ := res_two (u := .slice ao s co') (v := .slice (some ⟨g, 0, none⟩) (hs.length + 1) cap) (heap_set_other (a := ⟨w.heap.size + 1 + 1, 1, none⟩) (u := .slice (some ⟨g, 0, none⟩) (hs.length + 1) cap) hq2 (by simp))
          refine bodyPost_ret (v := .agg #[.slice ao s co', .slice (some ⟨g, 0, none⟩) (hs.length + 1) cap]) (by simp [results, Try.results91, go_sem, r1, r2]) rfl ?_
          have hT2 := HTA.out.put1 hown hgr hfr
          have hB := (hT2.blw.mono (B' := w.heap.size + 1) (by omega)).setCell (p := ⟨w.heap.size + 1, 0, none⟩) (Nat.le_refl _) (.slice ao s co')
          have hB2 := hB.setCell (p := ⟨w.heap.size + 1, 1, none⟩) (Nat.le_refl _) (.slice (some ⟨g, 0, none⟩) (hs.length + 1) cap)
          have hO := ownsRow_setCell_below (ownsRow_setCell_below hT2.own1 (a := ⟨w.heap.size + 1, 0, none⟩) (by simp) (.slice ao s co')) (a := ⟨w.heap.size + 1, 1, none⟩) (by simp) (.slice (some ⟨g, 0, none⟩) (hs.length + 1) cap)
          have hN := HR.out.new HNO.out
          have hc := hO.cellAt
          rw [ints_snoc] at hc
          refine ⟨BW.trans (hB2.mono (by omega)), .slice ao s co', g, cap, os, hs ++ [s], by simp, by have := (hT2.own1.lt g rfl).1; omega, ?_, .inr ⟨by simp; omega, ⟨_, _, _, rfl⟩, fun c hc => ?_, hN.heads⟩⟩
          · exact ints_at rfl (fun j hj => hc j (by simpa using hj))
          · have := (hN.cls.hd c hc).1; omega
    · have hse : s = M.n := by omega
      subst hse
      have HT : Hid (TwoRows W (w.heap.size + 1 + 1) 149 3 1 3 1 wr (.slice ao M.n co') (.slice ah hs.length ch) M.n hs.length (ints os) (ints hs)) := hT
      have HR : Hid (SplitRel M f M.n os hs) := hrel
      clear hT hrel hM hf hnx hl
      go_wp2
      obtain ⟨r1, r2, r3⟩ := res_two (u := .slice ao M.n co') (v := .slice ah hs.length ch) hq
      refine bodyPost_ret (v := .agg #[.slice ao M.n co', .slice ah hs.length ch]) (by simp [results, Try.results91, go_sem, r1, r2]) rfl ?_
      have hB := (HT.out.blw.mono (B' := w.heap.size + 1) (by omega)).setCell (p := ⟨w.heap.size + 1, 0, none⟩) (Nat.le_refl _) (.slice ao M.n co')
      have hB2 := hB.setCell (p := ⟨w.heap.size + 1, 1, none⟩) (Nat.le_refl _) (.slice ah hs.length ch)
      have hO0 := ownsRow_setCell_below (ownsRow_setCell_below HT.out.own0 (a := ⟨w.heap.size + 1, 0, none⟩) (by simp) (.slice ao M.n co')) (a := ⟨w.heap.size + 1, 1, none⟩) (by simp) (.slice ah hs.length ch)
      have hO1 := ownsRow_setCell_below (ownsRow_setCell_below HT.out.own1 (a := ⟨w.heap.size + 1, 0, none⟩) (by simp) (.slice ao M.n co')) (a := ⟨w.heap.size + 1, 1, none⟩) (by simp) (.slice ah hs.length ch)
      have hlen : 0 < hs.length := by have := HR.out.cls.lt 0 (by omega); omega
      obtain ⟨gh, rfl, _⟩ := hah hlen
      obtain ⟨go', rfl, _⟩ := hao (by omega)
      exact ⟨BW.trans (hB2.mono (by omega)), _, gh, ch, os, hs, rfl, by have := (hO1.lt gh rfl).1; omega, ints_at rfl (fun j hj => hO1.cellAt j hj), .inl ⟨hhm, ⟨go', co', rfl, by have := (hO0.lt go' rfl).1; omega, ints_at HR.out.len (fun j hj => hO0.cellAt j hj)⟩, HR.out⟩⟩
end Go.Proofs.Ytpngikmcjkjdaab
