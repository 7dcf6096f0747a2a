import Derived.BigRegion
import Derived.ChangeAlike
import Derived.Deep.DeepCutAuto
import Derived.Deep.LoopGhost
import Derived.Deep.OwnRows
import Derived.RegionTactic
import Derived.Test.YtpngikmcjkjdaabG1
set_option linter.unusedVariables false
set_option linter.unusedSimpArgs false
namespace Go.Proofs.Ytpngikmcjkjdaab
open Go.RowKit
set_option linter.unusedVariables false
def ints (l : List Nat) : List Value := l.map fun k : Nat => .int .i64 (k : Int)
theorem heap_at_new {w : World} {o : Obj} {k : Nat} (h : k = w.heap.size) : (w.alloc o).heap[k]? = some o := by subst h; exact heap_alloc_new w o
theorem heap_at_old {w : World} {o o' : Obj} {k : Nat} (h : w.heap[k]? = some o') : (w.alloc o).heap[k]? = some o' := by rw [Below.heap_alloc w o k (heap_lt h)]; exact h
theorem cell_one_set (w : World) (a : Addr) (u v : Value) (t : TypeId) : ∀ j x, [v][j]? = some x → ((w.setCell a u).alloc (.cells #[v] t)).cell? ((⟨w.heap.size, 0, none⟩ : Addr).add j) = some x := by
  have h := cell_one_new (w.setCell a u) v t
  have hs : (w.setCell a u).heap.size = w.heap.size := by simp [World.setCell]
  rw [hs] at h
  exact h
theorem ints_snoc (l : List Nat) (x : Nat) : ints l ++ [.int .i64 (x : Int)] = ints (l ++ [x]) := by simp [ints]
theorem ints_at {w : World} {g n : Nat} {l : List Nat} (hl : l.length = n) (h : ∀ j, j < n * 1 → w.cell? ⟨g, j, none⟩ = (ints l)[j]?) : NatsAt w g n (fun i => l.getD i 0) := by
  intro i hi
  rw [h i (by omega)]
  simp [ints, List.getD_eq_getElem?_getD, List.getElem?_eq_getElem (show i < l.length by omega)]
theorem Try.info3 : (Try.prog.info? 3).map (fun i => (i.zero, i.size, i.bytes)) = some (some (.int .i64 0), 1, 8) := by kernel_rfl
def SplitPost (M : Tab) (f : Nat → Nat) (most : Nat) (w : World) (e : Ending) (w' : World) : Prop :=
  Below w.heap.size w w' ∧ ∃ vo gh ch os hs, e = .returned (.agg #[vo, .slice (some ⟨gh, 0, none⟩) hs.length ch]) ∧ w.heap.size ≤ gh ∧ NatsAt w' gh hs.length (fun i => hs.getD i 0) ∧
    ((hs.length ≤ most ∧ (∃ go co, vo = .slice (some ⟨go, 0, none⟩) M.n co ∧ w.heap.size ≤ go ∧ NatsAt w' go M.n (fun i => os.getD i 0)) ∧ SplitRel M f M.n os hs) ∨
     (hs.length = most + 1 ∧ (∃ ao lo co, vo = .slice ao lo co) ∧ (∀ c, c < hs.length → hs.getD c 0 < M.n) ∧ ∀ c d, c < d → d < hs.length → alikeB M f (hs.getD c 0) (hs.getD d 0) = false))
set_option maxRecDepth 20000 in
set_option maxHeartbeats 2000000 in
theorem split_ok (gw ga ca gn cn go co l0 c0 : Nat) (h0 : Option Addr) (M : Tab) (f : Nat → Nat) (most : Nat) (w : World) (hM : WideAt w gw ga ca gn cn M) (hf : NatsAt w go M.n f)
    (hm0 : 1 ≤ most) (hm1 : most ≤ 40) (hn0 : 1 ≤ M.n) (hn : M.n ≤ 100000000) (hnx : ∀ i c, i < M.n → c < 8 → M.nxt i c < M.n) :
    Calls Try.prog 91 #[.pointer (some ⟨gw, 0, none⟩), .agg #[.slice (some ⟨go, 0, none⟩) M.n co, .slice h0 l0 c0], .int .i64 most] w
      (SplitPost M f most w) := by
  obtain ⟨i0, hi, hz0, hz1, hz2⟩ := info_parts Try.info3
  obtain ⟨W, hW⟩ : ∃ W, W = ((w.alloc (.cells #[.slice (some ⟨go, 0, none⟩) M.n co, .slice h0 l0 c0] 149)).alloc
      (.cells #[.slice none 0 0, .slice none 0 0] 149)).alloc (.cells #[.slice none 0 0, .slice none 0 0] 149) := ⟨_, rfl⟩
  have BW : Below w.heap.size w W := by
    rw [hW]; exact (((Below.refl _ _).alloc (Nat.le_refl _) _).alloc (by simp) _).alloc (by simp; omega) _
  have hWs : W.heap.size = w.heap.size + 3 := by rw [hW]; simp
  have k2 : W.cell? ⟨w.heap.size, 0, none⟩ = some (.slice (some ⟨go, 0, none⟩) M.n co) := by rw [hW]; simp [go_sem]
  have k3 : W.cell? ⟨w.heap.size, 1, none⟩ = some (.slice h0 l0 c0) := by rw [hW]; simp [go_sem]
  have k4 : W.heap[w.heap.size + 1]? = some (.cells #[.slice none 0 0, .slice none 0 0] 149 (0, 0)) := by rw [hW]; exact heap_at_old (heap_at_new (by simp))
  have k5 : W.heap[w.heap.size + 1 + 1]? = some (.cells #[.slice none 0 0, .slice none 0 0] 149 (0, 0)) := by rw [hW]; exact heap_at_new (by simp)
  have HW := hW
  go_enter Try.func91, Try.ntmps91
  go_wp2
  rw [← hW]
  clear hW HW
  have T0 : TwoRows W (w.heap.size + 1 + 1) 149 3 1 3 1 W (.slice none 0 0) (.slice none 0 0) 0 0 [] [] :=
    ⟨Below.refl _ _, k5, World.ownsRow_nil _ _ _ _, World.ownsRow_nil _ _ _ _, by intro g h; simp [Value.ownBlock] at h⟩
  go_loopw [8, 9] (fun st _ wr => ∃ s : Nat, ∃ os hs : List Nat, ∃ vo vh : Value, s ≤ M.n ∧ st = .int .i64 s ∧ hs.length ≤ most ∧ SplitRel M f s os hs ∧
      TwoRows W (w.heap.size + 1 + 1) 149 3 1 3 1 wr vo vh s hs.length (ints os) (ints hs))
    (fun st _ _ => M.n - (intOf st).toNat)
  case atStart => exact ⟨0, [], [], _, _, by omega, rfl, by simp, SplitRel.nil M f, T0⟩
  case round =>
    obtain ⟨s, os, hs, vo, vh, hs1, rfl, hhm, hrel, hT⟩ := hrel
    clear T0
    have hbW : Below (w.heap.size + 1 + 1) W wr := hT.blw
    have hbw : Below w.heap.size w wr := BW.trans (hbW.mono (by omega))
    have x0 := (hM.below hbw).p0
    have x2 := (hbW.cell (p := ⟨w.heap.size, 0, none⟩) (by simp <;> omega)).trans k2
    have x3 := (hbW.cell (p := ⟨w.heap.size, 1, none⟩) (by simp <;> omega)).trans k3
    obtain ⟨y0, y1, z0, z1⟩ := cell_two hT.blk
    have hq : wr.heap[w.heap.size + 1]? = some (.cells #[.slice none 0 0, .slice none 0 0] 149 (0, 0)) := (hbW.block _ (by omega)).trans k4
    obtain ⟨q0, q1, p0, p1⟩ := cell_two hq
    obtain ⟨ah, ch, rfl, hah⟩ := ownsRow_shape hT.own1
    obtain ⟨ao, co', rfl, hao⟩ := ownsRow_shape hT.own0
    have hl := hrel.cls.hd
    by_cases hlt : s < M.n
    · obtain ⟨gh, hgh⟩ : ∃ gh, (0 < hs.length → ah = some ⟨gh, 0, none⟩) ∧ NatsAt wr gh hs.length (fun i => hs.getD i 0) := by
        by_cases h0 : 0 < hs.length
        · obtain ⟨g, hg, hc⟩ := hah h0
          exact ⟨g, fun _ => hg, ints_at rfl hc⟩
        · exact ⟨0, fun h => absurd h h0, fun i hi => absurd hi (by omega)⟩
      have HC := find_ok gw ga ca gn cn go co l0 c0 gh hs.length ch h0 ah M f (fun i => hs.getD i 0) s wr (hM.below hbw) (hf.below hbw) hgh.1 hgh.2 (by omega) (fun c hc => by have := (hl c hc).1; omega) hlt hn hnx
      have HT : Hid (TwoRows W (w.heap.size + 1 + 1) 149 3 1 3 1 wr (.slice ao s co') (.slice ah hs.length ch) s hs.length (ints os) (ints hs)) := hT
      have HR : Hid (SplitRel M f s os hs) := hrel
      clear hT hrel hM hf hnx hah hao hl hgh
      go_wp2_with fail
      refine HC.mono ?_
      rintro e w1 ⟨⟨r, hr, hno, hyes, rfl⟩, hb1⟩
      clear HC x0 x2 x3 y0 y1 z0 z1 hq q0 q1 p0 p1
      have hT1 := HT.out.below hb1
      have hbW1 : Below (w.heap.size + 1 + 1) W w1 := hT1.blw
      have HNO : Hid (∀ c, c < r → alikeB M f (hs.getD c 0) s = false) := hno
      have HYES : Hid (r < hs.length → alikeB M f (hs.getD r 0) s = true) := hyes
      clear hno hyes HT
      have x2 := (hbW1.cell (p := ⟨w.heap.size, 0, none⟩) (by simp <;> omega)).trans k2
      have x3 := (hbW1.cell (p := ⟨w.heap.size, 1, none⟩) (by simp <;> omega)).trans k3
      obtain ⟨y0, y1, z0, z1⟩ := cell_two hT1.blk
      have hsz := heap_lt hT1.blk
      have HT : Hid (TwoRows W (w.heap.size + 1 + 1) 149 3 1 3 1 w1 (.slice ao s co') (.slice ah hs.length ch) s hs.length (ints os) (ints hs)) := hT1
      have HB1 : Hid (Below wr.heap.size wr w1) := hb1
      have HBW : Hid (Below w.heap.size w wr) := hbw
      clear hT1 hb1 hbW1 hbw hbW
      by_cases hrl : r < hs.length
      · have hbn : ((r : Int) == (hs.length : Int)) = false := by simp; omega
        have HTa := HT.out.below ((Below.refl _ _).alloc (Nat.le_refl _) (.cells #[.int .i64 (r : Int)] 3))
        have hna := HTa.own0
        have hbo : w.heap.size + 1 + 1 + 1 ≤ (w1.alloc (.cells #[.int .i64 (r : Int)] 3)).heap.size := by simp; omega
        have HTA : Hid (TwoRows W (w.heap.size + 1 + 1) 149 3 1 3 1 (w1.alloc (.cells #[.int .i64 (r : Int)] 3)) (.slice ao s co') (.slice ah hs.length ch) s hs.length (ints os) (ints hs)) := HTa
        clear HTa
        go_wp2_with (at_builtin; refine wpList_append_fresh _ rfl _ _ 22 rfl (w.heap.size + 1 + 1 + 1) 3 i0 (.int .i64 0) 1 8 Try.underlying22 hi hz0 hz1 hz2 rfl (by decide) _ s (ints os) rfl hna ⟨w1.heap.size, 0, none⟩ 1 1 [.int .i64 (r : Int)] rfl rfl (cell_one_new _ _ _) (by intro u hu; simp at hu; subst hu; rfl) (by decide) (by unfold maxLen; omega) (by omega) hbo ?_; intro g cap w2 hown hgr hfr; obtain ⟨y0', y1', z0', z1'⟩ := cell_two (HTA.out.grown0 hgr))
        go_roundw
        case rel =>
          have hP := HTA.out.put0 hown hgr hfr
          rw [show ints os ++ [.int .i64 (r : Int)] = ints (os ++ [r]) from ints_snoc os r] at hP
          exact ⟨s + 1, os ++ [r], hs, _, _, by omega, by go_num, hhm, HR.out.old r hrl (HYES.out hrl) HNO.out, hP⟩
        case measure => simp [intOf]; omega
      · have hre : r = hs.length := by omega
        subst hre
        have HTa := HT.out.below ((Below.refl _ _).alloc (Nat.le_refl _) (.cells #[.int .i64 (s : Int)] 3))
        have hna := HTa.own1
        have hbo : w.heap.size + 1 + 1 + 1 ≤ (w1.alloc (.cells #[.int .i64 (s : Int)] 3)).heap.size := by simp; omega
        have HTA : Hid (TwoRows W (w.heap.size + 1 + 1) 149 3 1 3 1 (w1.alloc (.cells #[.int .i64 (s : Int)] 3)) (.slice ao s co') (.slice ah hs.length ch) s hs.length (ints os) (ints hs)) := HTa
        clear HTa
        have HT2 : ∀ g cap w2, w2.ownsRow (w.heap.size + 1 + 1 + 1) 3 1 (.slice (some ⟨g, 0, none⟩) (hs.length + 1) cap) (hs.length + 1) (ints hs ++ [.int .i64 (s : Int)]) →
            (w1.alloc (.cells #[.int .i64 (s : Int)] 3)).grownBy w2 (Value.slice ah hs.length ch).ownBlock → ((Value.slice ah hs.length ch).ownBlock = some g ∨ g = (w1.alloc (.cells #[.int .i64 (s : Int)] 3)).heap.size) →
            Hid (TwoRows W (w.heap.size + 1 + 1) 149 3 1 3 1 ((w2.setCell ⟨w.heap.size + 1 + 1, 1, none⟩ (.slice (some ⟨g, 0, none⟩) (hs.length + 1) cap)).alloc (.cells #[.int .i64 (hs.length : Int)] 3))
              (.slice ao s co') (.slice (some ⟨g, 0, none⟩) (hs.length + 1) cap) s (hs.length + 1) (ints os) (ints hs ++ [.int .i64 (s : Int)])) := fun g cap w2 ho hg hf =>
          (HTA.out.put1 ho hg hf).below ((Below.refl _ _).alloc (Nat.le_refl _) _)
        have q2 : ∀ g cap w2, w2.ownsRow (w.heap.size + 1 + 1 + 1) 3 1 (.slice (some ⟨g, 0, none⟩) (hs.length + 1) cap) (hs.length + 1) (ints hs ++ [.int .i64 (s : Int)]) →
            (w1.alloc (.cells #[.int .i64 (s : Int)] 3)).grownBy w2 (Value.slice ah hs.length ch).ownBlock → ((Value.slice ah hs.length ch).ownBlock = some g ∨ g = (w1.alloc (.cells #[.int .i64 (s : Int)] 3)).heap.size) →
            w2.heap[w.heap.size + 1]? = some (.cells #[.slice none 0 0, .slice none 0 0] 149 (0, 0)) := fun g cap w2 ho hg hf => by
          have h1 := hg.block (w.heap.size + 1) (by simp; omega) (fun e => by have := (HTA.out.own1.lt _ e.symm).1; omega)
          rw [h1, HTA.out.blw.block _ (by omega)]; exact k4
        by_cases hmo : hs.length + 1 ≤ most
        · have HNO2 := HNO
          go_wp2_with (first | (at_builtin; refine wpList_append_fresh _ rfl _ _ 22 rfl (w.heap.size + 1 + 1 + 1) 3 i0 (.int .i64 0) 1 8 Try.underlying22 hi hz0 hz1 hz2 rfl (by decide) _ hs.length (ints hs) rfl hna ⟨w1.heap.size, 0, none⟩ 1 1 [.int .i64 (s : Int)] rfl rfl (cell_one_new _ _ _) (by intro u hu; simp at hu; subst hu; rfl) (by decide) (by unfold maxLen; omega) (by omega) hbo ?_; intro g cap w2 hown hgr hfr; obtain ⟨y0', y1', z0', z1'⟩ := cell_two (HTA.out.grown1 hgr); have hq2 := q2 g cap w2 hown hgr hfr; obtain ⟨q0, q1, p0, p1⟩ := cell_two hq2) | (at_builtin; refine wpList_append_fresh _ rfl _ _ 22 rfl (w.heap.size + 1 + 1 + 1) 3 i0 (.int .i64 0) 1 8 Try.underlying22 hi hz0 hz1 hz2 rfl (by decide) _ s (ints os) rfl (HT2 g cap w2 hown hgr hfr).out.own0 ⟨w2.heap.size, 0, none⟩ 1 1 [.int .i64 (hs.length : Int)] rfl rfl (cell_one_set _ _ _ _ _) (by intro u hu; simp at hu; subst hu; rfl) (by decide) (by unfold maxLen; omega) (by omega) (by have := hgr.size; simp at this ⊢; omega) ?_; intro g2 cap2 w3 hown2 hgr2 hfr2; obtain ⟨y0', y1', z0', z1'⟩ := cell_two ((HT2 g cap w2 hown hgr hfr).out.grown0 hgr2)))
          go_roundw
          case rel =>
            have hP := (HT2 g cap w2 hown hgr hfr).out.put0 hown2 hgr2 hfr2
            rw [show ints os ++ [.int .i64 (hs.length : Int)] = ints (os ++ [hs.length]) from ints_snoc os _, show ints hs ++ [.int .i64 (s : Int)] = ints (hs ++ [s]) from ints_snoc hs _] at hP
            exact ⟨s + 1, os ++ [hs.length], hs ++ [s], _, _, by omega, by go_num, by simp; omega, HR.out.new HNO.out, by simpa using hP⟩
          case measure => simp [intOf]; omega
        · go_wp2_with (at_builtin; refine wpList_append_fresh _ rfl _ _ 22 rfl (w.heap.size + 1 + 1 + 1) 3 i0 (.int .i64 0) 1 8 Try.underlying22 hi hz0 hz1 hz2 rfl (by decide) _ hs.length (ints hs) rfl hna ⟨w1.heap.size, 0, none⟩ 1 1 [.int .i64 (s : Int)] rfl rfl (cell_one_new _ _ _) (by intro u hu; simp at hu; subst hu; rfl) (by decide) (by unfold maxLen; omega) (by omega) hbo ?_; intro g cap w2 hown hgr hfr; obtain ⟨y0', y1', z0', z1'⟩ := cell_two (HTA.out.grown1 hgr); have hq2 := q2 g cap w2 hown hgr hfr; obtain ⟨q0, q1, p0, p1⟩ := cell_two hq2)
          obtain ⟨r1, r2, r3⟩ := res_two (u := .slice ao s co') (v := .slice (some ⟨g, 0, none⟩) (hs.length + 1) cap) (heap_set_other (a := ⟨w.heap.size + 1 + 1, 1, none⟩) (u := .slice (some ⟨g, 0, none⟩) (hs.length + 1) cap) hq2 (by simp))
          refine bodyPost_ret (v := .agg #[.slice ao s co', .slice (some ⟨g, 0, none⟩) (hs.length + 1) cap]) (by simp [results, Try.results91, go_sem, r1, r2]) rfl ?_
          have hT2 := HTA.out.put1 hown hgr hfr
          have hB := (hT2.blw.mono (B' := w.heap.size + 1) (by omega)).setCell (p := ⟨w.heap.size + 1, 0, none⟩) (Nat.le_refl _) (.slice ao s co')
          have hB2 := hB.setCell (p := ⟨w.heap.size + 1, 1, none⟩) (Nat.le_refl _) (.slice (some ⟨g, 0, none⟩) (hs.length + 1) cap)
          have hO := ownsRow_setCell_below (ownsRow_setCell_below hT2.own1 (a := ⟨w.heap.size + 1, 0, none⟩) (by simp) (.slice ao s co')) (a := ⟨w.heap.size + 1, 1, none⟩) (by simp) (.slice (some ⟨g, 0, none⟩) (hs.length + 1) cap)
          have hN := HR.out.new HNO.out
          have hc := hO.cellAt
          rw [ints_snoc] at hc
          refine ⟨BW.trans (hB2.mono (by omega)), .slice ao s co', g, cap, os, hs ++ [s], by simp, by have := (hT2.own1.lt g rfl).1; omega, ?_, .inr ⟨by simp; omega, ⟨_, _, _, rfl⟩, fun c hc => ?_, hN.heads⟩⟩
          · exact ints_at rfl (fun j hj => hc j (by simpa using hj))
          · have := (hN.cls.hd c hc).1; omega
    · have hse : s = M.n := by omega
      subst hse
      have HT : Hid (TwoRows W (w.heap.size + 1 + 1) 149 3 1 3 1 wr (.slice ao M.n co') (.slice ah hs.length ch) M.n hs.length (ints os) (ints hs)) := hT
      have HR : Hid (SplitRel M f M.n os hs) := hrel
      clear hT hrel hM hf hnx hl
      go_wp2
      obtain ⟨r1, r2, r3⟩ := res_two (u := .slice ao M.n co') (v := .slice ah hs.length ch) hq
      refine bodyPost_ret (v := .agg #[.slice ao M.n co', .slice ah hs.length ch]) (by simp [results, Try.results91, go_sem, r1, r2]) rfl ?_
      have hB := (HT.out.blw.mono (B' := w.heap.size + 1) (by omega)).setCell (p := ⟨w.heap.size + 1, 0, none⟩) (Nat.le_refl _) (.slice ao M.n co')
      have hB2 := hB.setCell (p := ⟨w.heap.size + 1, 1, none⟩) (Nat.le_refl _) (.slice ah hs.length ch)
      have hO0 := ownsRow_setCell_below (ownsRow_setCell_below HT.out.own0 (a := ⟨w.heap.size + 1, 0, none⟩) (by simp) (.slice ao M.n co')) (a := ⟨w.heap.size + 1, 1, none⟩) (by simp) (.slice ah hs.length ch)
      have hO1 := ownsRow_setCell_below (ownsRow_setCell_below HT.out.own1 (a := ⟨w.heap.size + 1, 0, none⟩) (by simp) (.slice ao M.n co')) (a := ⟨w.heap.size + 1, 1, none⟩) (by simp) (.slice ah hs.length ch)
      have hlen : 0 < hs.length := by have := HR.out.cls.lt 0 (by omega); omega
      obtain ⟨gh, rfl, _⟩ := hah hlen
      obtain ⟨go', rfl, _⟩ := hao (by omega)
      exact ⟨BW.trans (hB2.mono (by omega)), _, gh, ch, os, hs, rfl, by have := (hO1.lt gh rfl).1; omega, ints_at rfl (fun j hj => hO1.cellAt j hj), .inl ⟨hhm, ⟨go', co', rfl, by have := (hO0.lt go' rfl).1; omega, ints_at HR.out.len (fun j hj => hO0.cellAt j hj)⟩, HR.out⟩⟩
end Go.Proofs.Ytpngikmcjkjdaab

namespace Go.Proofs.Ytpngikmcjkjdaab
set_option linter.unusedVariables false
theorem sub_of_sorted : ∀ (l' l : List Nat), l.Pairwise (· < ·) → l'.Pairwise (· < ·) → (∀ a ∈ l, a ∈ l') → l.Sublist l' := by
  intro l'
  induction l' with
  | nil => intro l _ _ h; cases l with
    | nil => exact List.Sublist.slnil
    | cons a s => exact absurd (h a (by simp)) (by simp)
  | cons b t ih =>
    intro l hl hl' h
    cases l with
    | nil => exact List.nil_sublist _
    | cons a s =>
      rw [List.pairwise_cons] at hl hl'
      by_cases e : a = b
      · subst e
        refine List.Sublist.cons_cons a (ih s hl.2 hl'.2 ?_)
        intro x hx
        have := h x (by simp [hx])
        rcases List.mem_cons.1 this with rfl | h'
        · exact absurd (hl.1 _ hx) (by omega)
        · exact h'
      · refine List.Sublist.cons b (ih (a :: s) (List.pairwise_cons.2 hl) hl'.2 ?_)
        have ha : a ∈ t := by
          rcases List.mem_cons.1 (h a (by simp)) with h' | h'
          · exact absurd h' e
          · exact h'
        have hba := hl'.1 a ha
        intro x hx
        rcases List.mem_cons.1 (h x hx) with h' | h'
        · subst h'
          rcases List.mem_cons.1 hx with h'' | h''
          · omega
          · have := hl.1 x h''; omega
        · exact h'
theorem getD_mem (l : List Nat) (c : Nat) (h : c < l.length) : l.getD c 0 ∈ l := by
  rw [List.getD_eq_getElem?_getD, List.getElem?_eq_getElem h]; exact List.getElem_mem h
theorem mem_getD {l : List Nat} {a : Nat} (h : a ∈ l) : ∃ c, c < l.length ∧ l.getD c 0 = a := by
  obtain ⟨c, hc, rfl⟩ := List.getElem_of_mem h
  exact ⟨c, hc, by rw [List.getD_eq_getElem?_getD, List.getElem?_eq_getElem hc]; rfl⟩
theorem Cls.sub {n : Nat} {f f' : Nat → Nat} {hs hs' : List Nat} (h : Cls n f hs) (h' : Cls n f' hs') (hr : ∀ i j, i < n → j < n → f' i = f' j → f i = f j) : ∀ a ∈ hs, a ∈ hs' := by
  intro a ha
  obtain ⟨c, hc, rfl⟩ := mem_getD ha
  have h1 := h.hd c hc
  have hlt := h'.lt _ h1.1
  have hle := h'.le _ h1.1
  have h2 := h'.hd _ hlt
  have h3 := hr _ _ h2.1 h1.1 h2.2
  have h4 := h.le _ h2.1
  rw [h3, h1.2] at h4
  have : hs'.getD (f' (hs.getD c 0)) 0 = hs.getD c 0 := by omega
  rw [← this]
  exact getD_mem _ _ hlt
theorem Cls.len_le {n : Nat} {f f' : Nat → Nat} {hs hs' : List Nat} (h : Cls n f hs) (h' : Cls n f' hs') (hr : ∀ i j, i < n → j < n → f' i = f' j → f i = f j) : hs.length ≤ hs'.length :=
  (sub_of_sorted hs' hs h.inc h'.inc (h.sub h' hr)).length_le
theorem Cls.eq_of_len {n : Nat} {f f' : Nat → Nat} {hs hs' : List Nat} (h : Cls n f hs) (h' : Cls n f' hs') (hr : ∀ i j, i < n → j < n → f' i = f' j → f i = f j) (hl : hs.length = hs'.length) :
    hs = hs' ∧ ∀ i, i < n → f i = f' i := by
  have e := (sub_of_sorted hs' hs h.inc h'.inc (h.sub h' hr)).eq_of_length hl
  subst e
  refine ⟨rfl, fun i hi => ?_⟩
  have h1 := h'.hd _ (h'.lt i hi)
  have h2 := hr _ _ h1.1 hi h1.2
  rw [← h2]
  exact (h.hd _ (h'.lt i hi)).2
theorem notes_cons {c : Nat} {x : List Nat} (hc : c < 8) (hx : Notes x) : Notes (c :: x) := by
  intro d hd
  rcases List.mem_cons.1 hd with h | h
  · omega
  · exact hx d h
def Apart (M : Tab) (i j : Nat) : Prop := ∃ x, Notes x ∧ M.acc (M.read i x) ≠ M.acc (M.read j x)
structure Mid (M : Tab) (f : Nat → Nat) (hs : List Nat) : Prop where
  cls : Cls M.n f hs
  apart : ∀ i j, i < M.n → j < M.n → f i ≠ f j → Apart M i j
theorem apart_of_not_alike {M : Tab} {f : Nat → Nat} (hnx : ∀ i c, i < M.n → c < 8 → M.nxt i c < M.n) (hap : ∀ i j, i < M.n → j < M.n → f i ≠ f j → Apart M i j) (i j : Nat) (hi : i < M.n) (hj : j < M.n) (h : alikeB M f i j = false) : Apart M i j := by
  rw [Bool.eq_false_iff] at h
  by_cases ha : M.acc i = M.acc j
  · have : ¬ ∀ c, c < 8 → f (M.nxt i c) = f (M.nxt j c) := fun hc => h ((alikeB_iff M f i j).2 ⟨ha, hc⟩)
    have : ∃ c, c < 8 ∧ f (M.nxt i c) ≠ f (M.nxt j c) := Classical.byContradiction fun hn => this fun c hc => Classical.byContradiction fun hne => hn ⟨c, hc, hne⟩
    obtain ⟨c, hc, hne⟩ := this
    obtain ⟨x, hx, hd⟩ := hap _ _ (hnx i c hi hc) (hnx j c hj hc) hne
    exact ⟨c :: x, notes_cons hc hx, by simpa [Tab.read] using hd⟩
  · exact ⟨[], by intro c hc; simp at hc, by simpa [Tab.read] using ha⟩
theorem Mid.step {M : Tab} {f : Nat → Nat} {hs os hs' : List Nat} (hnx : ∀ i c, i < M.n → c < 8 → M.nxt i c < M.n) (h : Mid M f hs) (h' : SplitRel M f M.n os hs') : Mid M (fun i => os.getD i 0) hs' where
  cls := h'.cls
  apart i j hi hj hne := apart_of_not_alike hnx h.apart i j hi hj (by
    rw [Bool.eq_false_iff]; intro e; exact hne ((h'.same i j hi hj).2 e))
theorem Mid.first {M : Tab} (hn : 1 ≤ M.n) : Mid M (fun _ => 0) [0] where
  cls := ⟨fun _ _ => by simp, fun i _ => by simp, fun c hc => by
    have : c = 0 := by simp at hc; omega
    subst this; exact ⟨by simp; omega, rfl⟩, by simp⟩
  apart i j _ _ h := absurd rfl h
def Fine (M : Tab) (f : Nat → Nat) : Prop := ∀ i j, i < M.n → j < M.n → alikeB M f i j = true → f i = f j
theorem Fine.first (M : Tab) : Fine M (fun _ => 0) := fun _ _ _ _ _ => rfl
theorem Fine.step {M : Tab} {f : Nat → Nat} {os hs' : List Nat} (hnx : ∀ i c, i < M.n → c < 8 → M.nxt i c < M.n) (h : Fine M f) (h' : SplitRel M f M.n os hs') : Fine M (fun i => os.getD i 0) := by
  intro i j hi hj ha
  show os.getD i 0 = os.getD j 0
  rw [h'.same i j hi hj, alikeB_iff]
  rw [alikeB_iff] at ha
  refine ⟨ha.1, fun c hc => ?_⟩
  have := ha.2 c hc
  have := (h'.same _ _ (hnx i c hi hc) (hnx j c hj hc)).1 this
  exact h _ _ (hnx i c hi hc) (hnx j c hj hc) this
theorem split_len_le {M : Tab} {f : Nat → Nat} {hs os hs' : List Nat} (h : Mid M f hs) (hf : Fine M f) (h' : SplitRel M f M.n os hs') : hs.length ≤ hs'.length :=
  h.cls.len_le h'.cls fun i j hi hj e => hf i j hi hj ((h'.same i j hi hj).1 e)
structure Stable (M : Tab) (f : Nat → Nat) (hs : List Nat) : Prop where
  mid : Mid M f hs
  acc : ∀ i j, i < M.n → j < M.n → f i = f j → M.acc i = M.acc j
  nxt : ∀ i j c, i < M.n → j < M.n → c < 8 → f i = f j → f (M.nxt i c) = f (M.nxt j c)
theorem stable_of_len {M : Tab} {f : Nat → Nat} {hs os hs' : List Nat} (hnx : ∀ i c, i < M.n → c < 8 → M.nxt i c < M.n) (h : Mid M f hs) (hf : Fine M f) (h' : SplitRel M f M.n os hs') (hl : hs'.length = hs.length) :
    Stable M (fun i => os.getD i 0) hs' := by
  obtain ⟨e, hs⟩ := h.cls.eq_of_len h'.cls (fun i j hi hj e => hf i j hi hj ((h'.same i j hi hj).1 e)) hl.symm
  refine ⟨h.step hnx h', fun i j hi hj e => ?_, fun i j c hi hj hc e => ?_⟩
  · exact ((alikeB_iff M f i j).1 ((h'.same i j hi hj).1 e)).1
  · have := ((alikeB_iff M f i j).1 ((h'.same i j hi hj).1 e)).2 c hc
    rw [hs _ (hnx i c hi hc), hs _ (hnx j c hj hc)] at this
    exact this
def merged (M : Tab) (f : Nat → Nat) (hs : List Nat) : Tab where
  n := hs.length
  acc k := M.acc (hs.getD k 0)
  nxt k c := f (M.nxt (hs.getD k 0) c)
theorem merged_read {M : Tab} {f : Nat → Nat} {hs : List Nat} (hnx : ∀ i c, i < M.n → c < 8 → M.nxt i c < M.n) (h : Stable M f hs) (i : Nat) (hi : i < M.n) (x : List Nat) (hx : Notes x) :
    (merged M f hs).read (f i) x = f (M.read i x) ∧ M.read i x < M.n := by
  induction x generalizing i with
  | nil => exact ⟨rfl, hi⟩
  | cons c x ih =>
    have hc : c < 8 := hx c (by simp)
    have hx' : Notes x := fun d hd => hx d (by simp [hd])
    have h1 := h.mid.cls.hd _ (h.mid.cls.lt i hi)
    have e : (merged M f hs).nxt (f i) c = f (M.nxt i c) := h.nxt _ _ c h1.1 hi hc h1.2
    simp only [Tab.read, List.foldl_cons, e]
    exact ih _ (hnx i c hi hc) hx'
theorem merged_acc {M : Tab} {f : Nat → Nat} {hs : List Nat} (h : Stable M f hs) (i : Nat) (hi : i < M.n) : (merged M f hs).acc (f i) = M.acc i := by
  have h1 := h.mid.cls.hd _ (h.mid.cls.lt i hi)
  exact h.acc _ _ h1.1 hi h1.2
theorem cls_zero {n : Nat} {f : Nat → Nat} {hs : List Nat} (h : Cls n f hs) (hn : 1 ≤ n) : f 0 = 0 ∧ hs.getD 0 0 = 0 := by
  have hl := h.lt 0 (by omega)
  have hle := h.le 0 (by omega)
  have hpos : 0 < hs.length := by omega
  have h0 := h.hd 0 hpos
  have e : hs.getD (f 0) 0 = 0 := by omega
  by_cases hf : f 0 = 0
  · rw [hf] at e; exact ⟨hf, e⟩
  · have := (List.pairwise_iff_getElem.1 h.inc) 0 (f 0) hpos hl (by omega)
    rw [List.getD_eq_getElem?_getD, List.getElem?_eq_getElem hl] at e
    simp at e
    omega
theorem merged_accepts {M : Tab} {f : Nat → Nat} {hs : List Nat} (hnx : ∀ i c, i < M.n → c < 8 → M.nxt i c < M.n) (h : Stable M f hs) (hn : 1 ≤ M.n) (x : List Nat) (hx : Notes x) : (merged M f hs).accepts x = M.accepts x := by
  have h0 := (cls_zero h.mid.cls hn).1
  have h1 := merged_read hnx h 0 (by omega) x hx
  rw [h0] at h1
  rw [Tab.accepts, h1.1, merged_acc h _ h1.2, Tab.accepts]
theorem merged_apart {M : Tab} {f : Nat → Nat} {hs : List Nat} (hnx : ∀ i c, i < M.n → c < 8 → M.nxt i c < M.n) (h : Stable M f hs) (k l : Nat) (hk : k < hs.length) (hl : l < hs.length) (hne : k ≠ l) : Apart (merged M f hs) k l := by
  have h1 := h.mid.cls.hd k hk
  have h2 := h.mid.cls.hd l hl
  obtain ⟨x, hx, hd⟩ := h.mid.apart _ _ h1.1 h2.1 (by rw [h1.2, h2.2]; exact hne)
  have r1 := merged_read hnx h _ h1.1 x hx
  have r2 := merged_read hnx h _ h2.1 x hx
  rw [h1.2] at r1
  rw [h2.2] at r2
  refine ⟨x, hx, ?_⟩
  rw [r1.1, r2.1, merged_acc h _ r1.2, merged_acc h _ r2.2]
  exact hd
end Go.Proofs.Ytpngikmcjkjdaab

namespace Go.Proofs.Ytpngikmcjkjdaab
open Go.RowKit
set_option linter.unusedVariables false
theorem Try.info4 : (Try.prog.info? 4).map (fun i => (i.zero, i.size, i.bytes)) = some (some (.bool false), 1, 1) := by kernel_rfl
theorem Try.infoR : (Try.prog.info? 22).map (fun i => (i.zero, i.size, i.bytes)) = some (some (.slice none 0 0), 1, 24) := by kernel_rfl
structure MergeAt (B : Nat) (W w : World) (gA gN bT n : Nat) (k : Nat) (A : Nat → Bool) (X : Nat → Nat → Nat) (R : Nat → Nat) : Prop where
  blw : Below (B + 1 + 1) W w
  blk : w.heap[bT]? = some (.cells #[.slice (some ⟨gA, 0, none⟩) n n, .slice (some ⟨gN, 0, none⟩) n n] 30 (0, 0))
  rA : w.rowIs gA 4 n (fun i => if i < k then .bool (A i) else .bool false)
  rN : w.rowIs gN 22 n (fun i => if i < k then .slice (some ⟨R i, 0, none⟩) 8 8 else .slice none 0 0)
  rR : ∀ i, i < k → w.rowIs (R i) 3 8 (fun c => .int .i64 (X i c))
  loA : B + 2 ≤ gA
  loN : B + 2 ≤ gN
  loT : B + 2 ≤ bT
  dAN : gA ≠ gN
  dAT : gA ≠ bT
  dNT : gN ≠ bT
  dR : ∀ i, i < k → R i ≠ gA ∧ R i ≠ gN ∧ R i ≠ bT ∧ B + 2 ≤ R i
  inj : ∀ i j, i < j → j < k → R i ≠ R j
variable {B : Nat} {W w w1 : World} {gA gN bT n k : Nat} {A : Nat → Bool} {X : Nat → Nat → Nat} {R : Nat → Nat}
theorem MergeAt.alloc (h : MergeAt B W w gA gN bT n k A X R) (o : Obj) : MergeAt B W (w.alloc o) gA gN bT n k A X R where
  blw := h.blw.alloc (by have := heap_lt h.blk; have := h.loT; omega) o
  blk := heap_at_old h.blk
  rA := h.rA.alloc o
  rN := h.rN.alloc o
  rR i hi := (h.rR i hi).alloc o
  loA := h.loA
  loN := h.loN
  loT := h.loT
  dAN := h.dAN
  dAT := h.dAT
  dNT := h.dNT
  dR := h.dR
  inj := h.inj
theorem MergeAt.drew (h : MergeAt B W w gA gN bT n k A X R) : MergeAt B W w.drew gA gN bT n k A X R :=
  ⟨h.blw.drew, h.blk, h.rA, h.rN, h.rR, h.loA, h.loN, h.loT, h.dAN, h.dAT, h.dNT, h.dR, h.inj⟩
theorem MergeAt.setOther (h : MergeAt B W w gA gN bT n k A X R) {a : Addr} (v : Value) (h0 : B + 2 ≤ a.block) (h1 : a.block ≠ gA) (h2 : a.block ≠ gN) (h3 : a.block ≠ bT) (h4 : ∀ i, i < k → R i ≠ a.block) :
    MergeAt B W (w.setCell a v) gA gN bT n k A X R where
  blw := h.blw.setCell h0 v
  blk := heap_set_other h.blk (fun e => h3 e.symm)
  rA := h.rA.setOther (fun e => h1 e.symm) v
  rN := h.rN.setOther (fun e => h2 e.symm) v
  rR i hi := (h.rR i hi).setOther (h4 i hi) v
  loA := h.loA
  loN := h.loN
  loT := h.loT
  dAN := h.dAN
  dAT := h.dAT
  dNT := h.dNT
  dR := h.dR
  inj := h.inj
theorem MergeAt.next (h : MergeAt B W w gA gN bT n k A X R) {g : Nat} (hg : w.rowIs g 3 8 (fun c => .int .i64 (X k c))) (hd : g ≠ gA ∧ g ≠ gN ∧ g ≠ bT ∧ B + 2 ≤ g) (hk : k < n) (hne : ∀ i, i < k → R i ≠ g) :
    MergeAt B W ((w.setCell ⟨gA, k, none⟩ (.bool (A k))).setCell ⟨gN, k, none⟩ (.slice (some ⟨g, 0, none⟩) 8 8)) gA gN bT n (k + 1) A X (fun i => if i = k then g else R i) where
  blw := (h.blw.setCell (p := ⟨gA, k, none⟩) h.loA _).setCell (p := ⟨gN, k, none⟩) h.loN _
  blk := heap_set_other (heap_set_other h.blk (fun e => h.dAT e.symm)) (fun e => h.dNT e.symm)
  rA := ((h.rA.set k (.bool (A k))).setOther h.dAN _).congr (fun i hi => by
    by_cases e : i = k
    · subst e; simp
    · simp only [if_neg e]; by_cases h' : i < k
      · rw [if_pos h', if_pos (by omega)]
      · rw [if_neg h', if_neg (by omega)])
  rN := ((h.rN.setOther (a := ⟨gA, k, none⟩) (fun e => h.dAN e.symm) _).set k _).congr (fun i hi => by
    by_cases e : i = k
    · subst e; simp
    · simp only [if_neg e]; by_cases h' : i < k
      · rw [if_pos h', if_pos (by omega)]
      · rw [if_neg h', if_neg (by omega)])
  rR i hi := by
    by_cases e : i = k
    · subst e; simp only [if_true]; exact (hg.setOther hd.1 _).setOther hd.2.1 _
    · simp only [if_neg e]
      have := h.dR i (by omega)
      exact ((h.rR i (by omega)).setOther this.1 _).setOther this.2.1 _
  loA := h.loA
  loN := h.loN
  loT := h.loT
  dAN := h.dAN
  dAT := h.dAT
  dNT := h.dNT
  dR i hi := by
    by_cases e : i = k
    · subst e; simp only [if_true]; exact hd
    · simp only [if_neg e]; exact h.dR i (by omega)
  inj i j hij hj := by
    by_cases e : j = k
    · subst e; simp only [if_true, if_neg (show i ≠ j by omega)]; exact hne i (by omega)
    · simp only [if_neg e, if_neg (show i ≠ k by omega)]; exact h.inj i j hij (by omega)
theorem madeCells_rowIs {w : World} {b t n : Nat} {z : Value} (h : w.heap[b]? = some (.cells (madeCells #[z] n) t (0, 0))) : w.rowIs b t n (fun _ => z) :=
  ⟨_, h, size_madeCells _ _, fun i hi => by simp [madeCells, hi, Nat.mod_one]⟩
theorem MergeAt.start (hb : Below (B + 1 + 1) W w) (hT : w.heap[bT]? = some (.cells #[.slice (some ⟨gA, 0, none⟩) n n, .slice (some ⟨gN, 0, none⟩) n n] 30 (0, 0)))
    (hA : w.heap[gA]? = some (.cells (madeCells #[.bool false] n) 4 (0, 0))) (hN : w.heap[gN]? = some (.cells (madeCells #[.slice none 0 0] n) 22 (0, 0)))
    (h1 : B + 2 ≤ gA) (h2 : B + 2 ≤ gN) (h3 : B + 2 ≤ bT) (h4 : gA ≠ gN) (h5 : gA ≠ bT) (h6 : gN ≠ bT) : MergeAt B W w gA gN bT n 0 A X (fun _ => 0) :=
  ⟨hb, hT, (madeCells_rowIs hA).congr (fun i _ => by simp), (madeCells_rowIs hN).congr (fun i _ => by simp), fun i hi => absurd hi (by omega), h1, h2, h3, h4, h5, h6, fun i hi => absurd hi (by omega), fun i j _ hj => absurd hj (by omega)⟩
structure Fresh (w : World) (V : Lay) (n : Nat) : Prop where
  oa : V.oa = 0
  on : V.on = 0
  ca : V.ca = n
  cn : V.cn = n
  ro : ∀ i, i < n → V.ro i = 0 ∧ V.rc i = 8
  inj : ∀ i j, i < j → j < n → V.rb i ≠ V.rb j
  sa : ∃ c, w.heap[V.ba]? = some (.cells c 4 (0, 0)) ∧ n ≤ c.size
  sn : ∃ c, w.heap[V.bn]? = some (.cells c 22 (0, 0)) ∧ n ≤ c.size
  sr : ∀ i, i < n → ∃ c, w.heap[V.rb i]? = some (.cells c 3 (0, 0)) ∧ 8 ≤ c.size
theorem shape_set {w : World} {b t m : Nat} (h : ∃ c, w.heap[b]? = some (.cells c t (0, 0)) ∧ m ≤ c.size) (q o : Nat) (u : Value) : ∃ c, (w.setCell ⟨q, o, none⟩ u).heap[b]? = some (.cells c t (0, 0)) ∧ m ≤ c.size := by
  obtain ⟨c, hb, hm⟩ := h
  by_cases e : b = q
  · subst e
    refine ⟨c.setIfInBounds o u, ?_, by simpa using hm⟩
    simp [World.setCell, Array.getElem?_modify, hb]
  · exact ⟨c, heap_set_other hb e, hm⟩
theorem shape_below {w w' : World} {b t m : Nat} (h : ∃ c, w.heap[b]? = some (.cells c t (0, 0)) ∧ m ≤ c.size) (hb : Below w.heap.size w w') : ∃ c, w'.heap[b]? = some (.cells c t (0, 0)) ∧ m ≤ c.size := by
  obtain ⟨c, hc, hm⟩ := h
  exact ⟨c, by rw [hb.block _ (heap_lt hc)]; exact hc, hm⟩
theorem Fresh.set {w : World} {V : Lay} {n : Nat} (h : Fresh w V n) (q o : Nat) (u : Value) : Fresh (w.setCell ⟨q, o, none⟩ u) V n :=
  ⟨h.oa, h.on, h.ca, h.cn, h.ro, h.inj, shape_set h.sa q o u, shape_set h.sn q o u, fun i hi => shape_set (h.sr i hi) q o u⟩
theorem Fresh.below {w w' : World} {V : Lay} {n : Nat} (h : Fresh w V n) (hb : Below w.heap.size w w') : Fresh w' V n :=
  ⟨h.oa, h.on, h.ca, h.cn, h.ro, h.inj, shape_below h.sa hb, shape_below h.sn hb, fun i hi => shape_below (h.sr i hi) hb⟩
theorem shape_row {w : World} {b t m : Nat} {f : Nat → Value} (h : w.rowIs b t m f) : ∃ c, w.heap[b]? = some (.cells c t (0, 0)) ∧ m ≤ c.size := by
  obtain ⟨c, hb, hn, _⟩ := h
  exact ⟨c, hb, by omega⟩
set_option maxRecDepth 20000 in
set_option maxHeartbeats 2000000 in
theorem merge_ok (gw ga ca gn cn go co gh ch : Nat) (M : Tab) (f : Nat → Nat) (hs : List Nat) (w : World) (hM : WideAt w gw ga ca gn cn M) (hf : NatsAt w go M.n f) (hh : NatsAt w gh hs.length (fun i => hs.getD i 0))
    (hl0 : 1 ≤ hs.length) (hl : hs.length ≤ 40) (hhd : ∀ c, c < hs.length → hs.getD c 0 < M.n) (hn : M.n ≤ 100000000) (hnx : ∀ i c, i < M.n → c < 8 → M.nxt i c < M.n) :
    Calls Try.prog 92 #[.pointer (some ⟨gw, 0, none⟩), .agg #[.slice (some ⟨go, 0, none⟩) M.n co, .slice (some ⟨gh, 0, none⟩) hs.length ch]] w
      fun e w' => ∃ V : Lay, e = .returned (.agg #[.slice (some ⟨V.ba, V.oa, none⟩) hs.length V.ca, .slice (some ⟨V.bn, V.on, none⟩) hs.length V.cn]) ∧ TabAt w' V (merged M f hs) ∧ V.From w.heap.size hs.length ∧ Below w.heap.size w w' ∧ Fresh w' V hs.length := by
  have mk1 := run_make_row' (P := Try.prog) 27 4 (.bool false) 1 Try.underlying27 Try.info4 rfl .i64 .i64 hs.length (by omega) (by omega)
  have mk2 := run_make_row' (P := Try.prog) 28 22 (.slice none 0 0) 24 Try.underlying28 Try.infoR rfl .i64 .i64 hs.length (by omega) (by omega)
  have mk3 := run_make_row' (P := Try.prog) 22 3 (.int .i64 0) 8 Try.underlying22 Try.info3 rfl .i64 .i64 8 (by omega) (by omega)
  obtain ⟨W, hW⟩ : ∃ W, W = (w.alloc (.cells #[.slice (some ⟨go, 0, none⟩) M.n co, .slice (some ⟨gh, 0, none⟩) hs.length ch] 149)).alloc
      (.cells #[.slice none 0 0, .slice none 0 0] 30) := ⟨_, rfl⟩
  have BW : Below w.heap.size w W := by
    rw [hW]; exact ((Below.refl _ _).alloc (Nat.le_refl _) _).alloc (by simp) _
  have hWs : W.heap.size = w.heap.size + 1 + 1 := by rw [hW]; simp
  have k2 : W.cell? ⟨w.heap.size, 0, none⟩ = some (.slice (some ⟨go, 0, none⟩) M.n co) := by rw [hW]; simp [go_sem]
  have k3 : W.cell? ⟨w.heap.size, 1, none⟩ = some (.slice (some ⟨gh, 0, none⟩) hs.length ch) := by rw [hW]; simp [go_sem]
  have k4 : W.heap[w.heap.size + 1]? = some (.cells #[.slice none 0 0, .slice none 0 0] 30 (0, 0)) := by rw [hW]; exact heap_at_new (by simp)
  go_enter Try.func92, Try.ntmps92
  go_upto_region 2 with fail
  rw [← hW]
  clear hW
  go_cut [6] (fun p wc => ∃ gA gN bT : Nat, p = .pointer (some ⟨bT, 0, none⟩) ∧ MergeAt w.heap.size W wc gA gN bT hs.length 0 (fun i => M.acc (hs.getD i 0)) (fun i c => f (M.nxt (hs.getD i 0) c)) (fun _ => 0))
  case first =>
    go_region
    all_goals go_wp2_with fail
    all_goals go_meet
    all_goals first | (refine ⟨w.heap.size + 1 + 1, w.heap.size + 1 + 1 + 1, _, rfl, MergeAt.drew (MergeAt.start ?_ ?_ ?_ ?_ ?_ ?_ ?_ ?_ ?_ ?_)⟩ <;> (first | omega | exact (((Below.refl _ _).alloc (by omega) _).alloc (by simp; omega) _).alloc (by simp; omega) _ | exact heap_at_new (by simp [hWs]) | exact heap_at_old (heap_at_new (by simp [hWs])) | exact heap_at_old (heap_at_old (heap_at_new (by simp [hWs])))); done) | (refine ⟨w.heap.size + 1 + 1, w.heap.size + 1 + 1 + 1 + 1, _, rfl, MergeAt.drew (MergeAt.start ?_ ?_ ?_ ?_ ?_ ?_ ?_ ?_ ?_ ?_)⟩ <;> (first | omega | exact (((Below.refl _ _).alloc (by omega) _).alloc (by simp; omega) _).alloc (by simp; omega) _ | exact heap_at_new (by simp [hWs]) | exact heap_at_old (heap_at_new (by simp [hWs])) | exact heap_at_old (heap_at_old (heap_at_new (by simp [hWs])))); done) | (refine ⟨w.heap.size + 1 + 1 + 1, w.heap.size + 1 + 1, _, rfl, MergeAt.drew (MergeAt.start ?_ ?_ ?_ ?_ ?_ ?_ ?_ ?_ ?_ ?_)⟩ <;> (first | omega | exact (((Below.refl _ _).alloc (by omega) _).alloc (by simp; omega) _).alloc (by simp; omega) _ | exact heap_at_new (by simp [hWs]) | exact heap_at_old (heap_at_new (by simp [hWs])) | exact heap_at_old (heap_at_old (heap_at_new (by simp [hWs])))); done) | (refine ⟨w.heap.size + 1 + 1 + 1, w.heap.size + 1 + 1 + 1 + 1, _, rfl, MergeAt.drew (MergeAt.start ?_ ?_ ?_ ?_ ?_ ?_ ?_ ?_ ?_ ?_)⟩ <;> (first | omega | exact (((Below.refl _ _).alloc (by omega) _).alloc (by simp; omega) _).alloc (by simp; omega) _ | exact heap_at_new (by simp [hWs]) | exact heap_at_old (heap_at_new (by simp [hWs])) | exact heap_at_old (heap_at_old (heap_at_new (by simp [hWs])))); done) | (refine ⟨w.heap.size + 1 + 1 + 1 + 1, w.heap.size + 1 + 1, _, rfl, MergeAt.drew (MergeAt.start ?_ ?_ ?_ ?_ ?_ ?_ ?_ ?_ ?_ ?_)⟩ <;> (first | omega | exact (((Below.refl _ _).alloc (by omega) _).alloc (by simp; omega) _).alloc (by simp; omega) _ | exact heap_at_new (by simp [hWs]) | exact heap_at_old (heap_at_new (by simp [hWs])) | exact heap_at_old (heap_at_old (heap_at_new (by simp [hWs])))); done) | (refine ⟨w.heap.size + 1 + 1 + 1 + 1, w.heap.size + 1 + 1 + 1, _, rfl, MergeAt.drew (MergeAt.start ?_ ?_ ?_ ?_ ?_ ?_ ?_ ?_ ?_ ?_)⟩ <;> (first | omega | exact (((Below.refl _ _).alloc (by omega) _).alloc (by simp; omega) _).alloc (by simp; omega) _ | exact heap_at_new (by simp [hWs]) | exact heap_at_old (heap_at_new (by simp [hWs])) | exact heap_at_old (heap_at_old (heap_at_new (by simp [hWs])))); done)
  case rest =>
    obtain ⟨gA, gN, bT, rfl, hMA⟩ := hcut
    simp only [show ((8 : Nat) : Int) = 8 from rfl] at mk3
    have z3 := (hMA.blw.cell (p := ⟨w.heap.size, 1, none⟩) (by simp <;> omega)).trans k3
    go_wp2_with fail
    clear z3
    go_loopw [22] (fun ix wr => ∃ k : Nat, ∃ R : Nat → Nat, k ≤ hs.length ∧ ix = .int .i64 k ∧ MergeAt w.heap.size W wr gA gN bT hs.length k (fun i => M.acc (hs.getD i 0)) (fun i c => f (M.nxt (hs.getD i 0) c)) R)
      (fun ix _ => hs.length - (intOf ix).toNat)
    case atStart => exact ⟨0, _, by omega, rfl, hMA⟩
    case round =>
      obtain ⟨k, R, hk, rfl, hMr⟩ := hrel
      clear hMA mk1 mk2
      have hbW := hMr.blw
      have hbw : Below w.heap.size w wr := BW.trans (hbW.mono (by omega))
      by_cases hlt : k < hs.length
      · have x := hh.below hbw k hlt
        have hkn := hhd k hlt
        have HM : Hid (MergeAt w.heap.size W wr gA gN bT hs.length k (fun i => M.acc (hs.getD i 0)) (fun i c => f (M.nxt (hs.getD i 0) c)) R) := hMr
        clear hMr hbW
        simp only at x
        obtain ⟨h1, HH1⟩ : ∃ h1, Hid (hs.getD k 0 = h1) := ⟨_, rfl⟩
        rw [HH1.out] at x hkn
        go_wp2_with fail
        clear x mk3
        have hsz : bT < wr.heap.size ∧ gA < wr.heap.size ∧ gN < wr.heap.size := ⟨heap_lt HM.out.blk, HM.out.rA.lt, HM.out.rN.lt⟩
        have hlo : w.heap.size + 2 ≤ wr.heap.size := by have := HM.out.loT; omega
        have hltR : ∀ i, i < k → R i < wr.heap.size := fun i hi => (HM.out.rR i hi).lt
        rename World => wo
        go_loopw [10] (fun c' wi => ∃ c : Nat, c ≤ 8 ∧ c' = .int .i64 c ∧ MergeAt w.heap.size W wi gA gN bT hs.length k (fun i => M.acc (hs.getD i 0)) (fun i c => f (M.nxt (hs.getD i 0) c)) R ∧
            wi.rowIs wo.heap.size 3 8 (fun j => if j < c then .int .i64 (f (M.nxt h1 j)) else .int .i64 0))
          (fun c' _ => 8 - (intOf c').toNat)
        case atStart => exact ⟨0, by omega, rfl, HM.out.alloc _, (madeCells_rowIs (heap_at_new rfl)).congr (fun i _ => by simp)⟩
        case round =>
          obtain ⟨c, hc, rfl, hMi, hri⟩ := hrel
          have hbWi := hMi.blw
          have hbwi : Below w.heap.size w wr := BW.trans (hbWi.mono (by omega))
          have x0 := (hM.below hbwi).p0
          have x1 := (hM.below hbwi).p1
          have x2 := (hbWi.cell (p := ⟨w.heap.size, 0, none⟩) (by simp <;> omega)).trans k2
          by_cases hlc : c < 8
          · have c1 := (hM.below hbwi).cel _ c hkn hlc
            have n1 := hnx _ c hkn hlc
            have c2 := hf.below hbwi _ n1
            have c3 := hri.cell hlc
            have c4 := hri.frozen c
            simp only [Nat.lt_irrefl, if_false] at c3
            have HMi : Hid (MergeAt w.heap.size W wr gA gN bT hs.length k (fun i => M.acc (hs.getD i 0)) (fun i c => f (M.nxt (hs.getD i 0) c)) R) := hMi
            have HRi : Hid (wr.rowIs wo.heap.size 3 8 (fun j => if j < c then .int .i64 (f (M.nxt h1 j)) else .int .i64 0)) := hri
            have HLR : Hid (∀ i, i < k → R i < wo.heap.size) := hltR
            clear hMi hri hM hf hnx hbWi hbwi hh hhd hltR
            go_wp2_with fail
            go_region
            go_wp2
            go_roundw
            case rel =>
              refine ⟨c + 1, by omega, by go_num, ?_, ?_⟩
              · exact (HMi.out.drew).setOther _ (by have := hlo; simp; omega) (by simp; omega) (by simp; omega) (by simp; omega) (fun i hi => by have := HLR.out i hi; simp; omega)
              · exact (HRi.out.drew.set c _).congr (fun j _ => by
                  by_cases e : j = c
                  · subst e; simp
                  · simp only [if_neg e]; by_cases h' : j < c
                    · rw [if_pos h', if_pos (by omega)]
                    · rw [if_neg h', if_neg (by omega)])
            case measure => simp [intOf]; omega
          · have he : c = 8 := by omega
            subst he
            have c1 := (hM.below hbwi).acc _ hkn
            obtain ⟨y0, y1, _, _⟩ := cell_two hMi.blk
            have c3 := hMi.rA.cell hlt
            have c4 := hMi.rA.frozen k
            have c5 := hMi.rN.cell hlt
            have c6 := hMi.rN.frozen k
            have d1 := hMi.dAN
            have d2 := hMi.dAT
            have d3 := hMi.dNT
            have d4 : ¬ gN = gA := fun e => d1 e.symm
            have d5 : ¬ bT = gA := fun e => d2 e.symm
            have d6 : ¬ bT = gN := fun e => d3 e.symm
            simp only [Nat.lt_irrefl, if_false] at c3 c5
            have HMi : Hid (MergeAt w.heap.size W wr gA gN bT hs.length k (fun i => M.acc (hs.getD i 0)) (fun i c => f (M.nxt (hs.getD i 0) c)) R) := hMi
            have HRi : Hid (wr.rowIs wo.heap.size 3 8 (fun j => if j < 8 then .int .i64 (f (M.nxt h1 j)) else .int .i64 0)) := hri
            have HLR : Hid (∀ i, i < k → R i < wo.heap.size) := hltR
            clear hMi hri hM hf hnx hbWi hbwi hh hhd hltR
            go_wp2_with fail
            go_region
            go_wp2
            go_roundw
            case rel =>
              have hrr : wr.drew.rowIs wo.heap.size 3 8 (fun j => .int .i64 (f (M.nxt (hs.getD k 0) j))) := by rw [HH1.out]; exact HRi.out.congr (fun j hj => by rw [if_pos hj])
              have hN := HMi.out.drew.next hrr ⟨by omega, by omega, by omega, by omega⟩ hlt (fun i hi => by have := HLR.out i hi; omega)
              rw [HH1.out] at hN
              exact ⟨k + 1, _, by omega, by go_num, hN⟩
            case measure => simp [intOf]; omega
      · have he : k = hs.length := by omega
        subst he
        obtain ⟨y0, y1, _, _⟩ := cell_two hMr.blk
        have hq : wr.heap[w.heap.size + 1]? = some (.cells #[.slice none 0 0, .slice none 0 0] 30 (0, 0)) := (hbW.block _ (by omega)).trans k4
        obtain ⟨q0, q1, p0, p1⟩ := cell_two hq
        have HM : Hid (MergeAt w.heap.size W wr gA gN bT hs.length hs.length (fun i => M.acc (hs.getD i 0)) (fun i c => f (M.nxt (hs.getD i 0) c)) R) := hMr
        clear hMr hM hf hnx hbW hh hhd
        go_wp2
        obtain ⟨r1, r2, r3⟩ := res_two (u := .slice (some ⟨gA, 0, none⟩) hs.length hs.length) (v := .slice (some ⟨gN, 0, none⟩) hs.length hs.length) hq
        refine bodyPost_ret (v := .agg #[.slice (some ⟨gA, 0, none⟩) hs.length hs.length, .slice (some ⟨gN, 0, none⟩) hs.length hs.length]) (by simp [results, Try.results92, go_sem, r1, r2]) rfl ?_
        have hm := HM.out
        refine ⟨⟨gA, 0, hs.length, gN, 0, hs.length, R, fun _ => 0, fun _ => 8⟩, rfl, ⟨fun i hi => ?_, fun i hi => ?_, fun i c hi hc => ?_⟩, ⟨by have := hm.loA; simp; omega, by have := hm.loN; simp; omega, fun i hi => by have := (hm.dR i hi).2.2.2; simp; omega⟩, ?_, ?_⟩
        · have h1 := ((hm.rA.setOther (a := ⟨w.heap.size + 1, 0, none⟩) (by have := hm.loA; simp; omega) (.slice (some ⟨gA, 0, none⟩) hs.length hs.length)).setOther (a := ⟨w.heap.size + 1, 1, none⟩) (by have := hm.loA; simp; omega) (.slice (some ⟨gN, 0, none⟩) hs.length hs.length)).cell hi
          rw [if_pos (show i < hs.length from hi)] at h1
          simpa [merged] using h1
        · have h1 := ((hm.rN.setOther (a := ⟨w.heap.size + 1, 0, none⟩) (by have := hm.loN; simp; omega) (.slice (some ⟨gA, 0, none⟩) hs.length hs.length)).setOther (a := ⟨w.heap.size + 1, 1, none⟩) (by have := hm.loN; simp; omega) (.slice (some ⟨gN, 0, none⟩) hs.length hs.length)).cell hi
          rw [if_pos (show i < hs.length from hi)] at h1
          simpa [merged] using h1
        · have hd := (hm.dR i hi).2.2.2
          have h1 := (((hm.rR i hi).setOther (a := ⟨w.heap.size + 1, 0, none⟩) (by simp; omega) (.slice (some ⟨gA, 0, none⟩) hs.length hs.length)).setOther (a := ⟨w.heap.size + 1, 1, none⟩) (by simp; omega) (.slice (some ⟨gN, 0, none⟩) hs.length hs.length)).cell hc
          simpa [merged] using h1
        · exact (hbw.setCell (p := ⟨w.heap.size + 1, 0, none⟩) (by simp <;> omega) _).setCell (p := ⟨w.heap.size + 1, 1, none⟩) (by simp <;> omega) _
        · refine ⟨rfl, rfl, rfl, rfl, fun i hi => ⟨rfl, rfl⟩, hm.inj, ?_, ?_, fun i hi => ?_⟩
          · exact shape_set (shape_set (shape_row hm.rA) _ _ _) _ _ _
          · exact shape_set (shape_set (shape_row hm.rN) _ _ _) _ _ _
          · exact shape_set (shape_set (shape_row (hm.rR i hi)) _ _ _) _ _ _
end Go.Proofs.Ytpngikmcjkjdaab

namespace Go.Proofs.Ytpngikmcjkjdaab
open Go.RowKit
set_option linter.unusedVariables false
def ShrinkPost (M : Tab) (most : Nat) (w : World) (e : Ending) (w' : World) : Prop :=
  Below w.heap.size w w' ∧
    ((∃ (f : Nat → Nat) (hs : List Nat) (V : Lay), Stable M f hs ∧ hs.length ≤ most ∧ e = .returned (.tuple #[.agg #[.slice (some ⟨V.ba, V.oa, none⟩) hs.length V.ca, .slice (some ⟨V.bn, V.on, none⟩) hs.length V.cn], .bool true]) ∧ TabAt w' V (merged M f hs) ∧ V.From w.heap.size hs.length ∧ Fresh w' V hs.length) ∨
     (e = .returned (.tuple #[.agg #[.slice none 0 0, .slice none 0 0], .bool false]) ∧ ∃ hs : List Nat, most < hs.length ∧ (∀ c, c < hs.length → hs.getD c 0 < M.n) ∧ ∀ c d, c < d → d < hs.length → Apart M (hs.getD c 0) (hs.getD d 0)))
structure PartAt (M : Tab) (most b : Nat) (W w : World) (k : Nat) (vo : Value) (gh ch : Nat) (hs : List Nat) : Prop where
  blw : Below b W w
  blk : w.heap[b]? = some (.cells #[vo, .slice (some ⟨gh, 0, none⟩) hs.length ch] 149 (0, 0))
  hds : NatsAt w gh hs.length (fun i => hs.getD i 0)
  cas : (hs.length + k = most + 1 ∧ hs.length ≤ most ∧ ∃ f go co, vo = .slice (some ⟨go, 0, none⟩) M.n co ∧ NatsAt w go M.n f ∧ Mid M f hs ∧ Fine M f) ∨
    (k = 0 ∧ most < hs.length ∧ hs.length ≤ 41 ∧ (∃ ao lo co, vo = .slice ao lo co) ∧ (∀ c, c < hs.length → hs.getD c 0 < M.n) ∧ ∀ c d, c < d → d < hs.length → Apart M (hs.getD c 0) (hs.getD d 0))
set_option maxRecDepth 20000 in
set_option maxHeartbeats 2000000 in
theorem shrink_ok (gw ga ca gn cn : Nat) (M : Tab) (most : Nat) (w : World) (hM : WideAt w gw ga ca gn cn M)
    (hm0 : 1 ≤ most) (hm1 : most ≤ 40) (hn0 : 1 ≤ M.n) (hn : M.n ≤ 100000000) (hnx : ∀ i c, i < M.n → c < 8 → M.nxt i c < M.n) :
    Calls Try.prog 75 #[.pointer (some ⟨gw, 0, none⟩), .int .i64 most] w (ShrinkPost M most w) := by
  have mk3 := run_make_row' (P := Try.prog) 22 3 (.int .i64 0) 8 Try.underlying22 Try.info3 rfl .i64 .i64 M.n (by omega) (by omega)
  obtain ⟨W, hW⟩ : ∃ W, W = (((w.alloc (.cells #[.slice none 0 0, .slice none 0 0] 30)).alloc
      (.cells (madeCells #[.int .i64 0] M.n) 3)).alloc (.cells #[.int .i64 0] 3)).alloc (.cells #[.slice (some ⟨w.heap.size + 1, 0, none⟩) M.n M.n, .slice (some ⟨w.heap.size + 1 + 1, 0, none⟩) 1 1] 149) := ⟨_, rfl⟩
  have BW : Below w.heap.size w W := by
    rw [hW]; exact ((((Below.refl _ _).alloc (Nat.le_refl _) _).alloc (by simp) _).alloc (by simp; omega) _).alloc (by simp; omega) _
  have hWs : W.heap.size = w.heap.size + 1 + 1 + 1 + 1 := by rw [hW]; simp
  have k2 : W.heap[w.heap.size]? = some (.cells #[.slice none 0 0, .slice none 0 0] 30 (0, 0)) := by rw [hW]; exact heap_at_old (heap_at_old (heap_at_old (heap_at_new (by simp))))
  have k3 : W.heap[w.heap.size + 1]? = some (.cells (madeCells #[.int .i64 0] M.n) 3 (0, 0)) := by rw [hW]; exact heap_at_old (heap_at_old (heap_at_new (by simp)))
  have k4 : W.heap[w.heap.size + 1 + 1]? = some (.cells #[.int .i64 0] 3 (0, 0)) := by rw [hW]; exact heap_at_old (heap_at_new (by simp))
  have k5 : W.heap[w.heap.size + 1 + 1 + 1]? = some (.cells #[.slice (some ⟨w.heap.size + 1, 0, none⟩) M.n M.n, .slice (some ⟨w.heap.size + 1 + 1, 0, none⟩) 1 1] 149 (0, 0)) := by rw [hW]; exact heap_at_new (by simp)
  have P0 : PartAt M most (w.heap.size + 1 + 1 + 1) W W most (.slice (some ⟨w.heap.size + 1, 0, none⟩) M.n M.n) (w.heap.size + 1 + 1) 1 [0] :=
    ⟨Below.refl _ _, k5, fun i hi => by have : i = 0 := by simp at hi; omega
                                        subst this; simpa using cell_of_one k4,
      .inl ⟨by simp; omega, by simpa using hm0, fun _ => 0, _, _, rfl, fun i hi => (madeCells_rowIs k3).cell hi, Mid.first hn0, Fine.first M⟩⟩
  have xp := hM.p0
  have hgw := lt_of_cell hM.p0
  go_enter Try.func75, Try.ntmps75
  go_wp2_with fail
  rw [← hW]
  clear hW mk3 k3 k4 k5 xp hgw
  go_loopg [7] most (fun k _ wr => ∃ vo gh ch hs, PartAt M most (w.heap.size + 1 + 1 + 1) W wr k vo gh ch hs)
  case atStart => exact ⟨_, _, _, _, P0⟩
  case round =>
    obtain ⟨vo, gh, ch, hs, hP⟩ := hrel
    clear P0
    have hbW := hP.blw
    have hbw : Below w.heap.size w wr := BW.trans (hbW.mono (by omega))
    have hq : wr.heap[w.heap.size]? = some (.cells #[.slice none 0 0, .slice none 0 0] 30 (0, 0)) := (hbW.block _ (by omega)).trans k2
    obtain ⟨q0, q1, p0, p1⟩ := cell_two hq
    obtain ⟨y0, y1, z0, z1⟩ := cell_two hP.blk
    rcases hP.cas with ⟨hk, hle, f, go, co, rfl, hf, hmid, hfine⟩ | ⟨rfl, hgt, h41, ⟨ao, lo, co, rfl⟩, hlt, hap⟩
    · have HC := split_ok gw ga ca gn cn go co hs.length ch (some ⟨gh, 0, none⟩) M f most wr (hM.below hbw) hf hm0 hm1 hn0 hn hnx
      have HP : Hid (PartAt M most (w.heap.size + 1 + 1 + 1) W wr gk (.slice (some ⟨go, 0, none⟩) M.n co) gh ch hs) := hP
      clear hP hf
      go_wp2_with fail
      refine HC.mono ?_
      rintro e w1 ⟨hb1, vo', gh', ch', os, hs', rfl, hgl, hN', hcase⟩
      clear HC y0 y1 z0 z1 hq q0 q1 p0 p1
      have hsz := heap_lt HP.out.blk
      have hb1W : Below (w.heap.size + 1 + 1 + 1) W w1 := hbW.trans (hb1.mono (by omega))
      have hb1w : Below w.heap.size w w1 := hbw.trans (hb1.mono (by omega))
      have hq : w1.heap[w.heap.size]? = some (.cells #[.slice none 0 0, .slice none 0 0] 30 (0, 0)) := (hb1W.block _ (by omega)).trans k2
      obtain ⟨q0, q1, p0, p1⟩ := cell_two hq
      have hpb : w1.heap[w.heap.size + 1 + 1 + 1]? = some (.cells #[.slice (some ⟨go, 0, none⟩) M.n co, .slice (some ⟨gh, 0, none⟩) hs.length ch] 149 (0, 0)) := by rw [hb1.block _ hsz]; exact HP.out.blk
      obtain ⟨y0, y1, z0, z1⟩ := cell_two hpb
      have hsz1 := heap_lt hpb
      have hszA : w.heap.size < w1.heap.size := by omega
      have hszB : w.heap.size < w1.heap.size := by omega
      by_cases heq : hs'.length = hs.length
      · rcases hcase with ⟨hle', ⟨go', co', rfl, _, hof⟩, hrel'⟩ | ⟨he, _⟩
        · have hst := stable_of_len hnx hmid hfine hrel' heq
          have hlpos : 1 ≤ hs'.length := by have := hrel'.cls.lt 0 (by omega); omega
          obtain ⟨W2, hW2⟩ : ∃ W2, W2 = w1.alloc (.cells #[.slice (some ⟨go', 0, none⟩) M.n co', .slice (some ⟨gh', 0, none⟩) hs'.length ch'] 149) := ⟨_, rfl⟩
          have hb2 : Below w1.heap.size w1 W2 := by rw [hW2]; exact (Below.refl _ _).alloc (Nat.le_refl _) _
          have HC := merge_ok gw ga ca gn cn go' co' gh' ch' M (fun i => os.getD i 0) hs' W2 ((hM.below hb1w).below hb2) (hof.below hb2) (hN'.below hb2) hlpos (by omega) (fun c hc => (hrel'.cls.hd c hc).1) hn hnx
          have hb2w : Below w.heap.size w W2 := hb1w.trans (hb2.mono (by omega))
          have HST : Hid (Stable M (fun i => os.getD i 0) hs') := hst
          have hq2 : W2.heap[w.heap.size]? = some (.cells #[.slice none 0 0, .slice none 0 0] 30 (0, 0)) := by rw [hb2.block _ (by omega)]; exact hq
          have hs2 : w1.heap.size ≤ W2.heap.size := hb2.size
          have hbe : ((hs'.length : Int) == (hs.length : Int)) = true := by simp; omega
          have HBW : Hid (Below w.heap.size w W2) := hb2w
          have HHE : Hid (hs'.length = hs.length) := heq
          clear hst hrel' hof hN' hM hnx hmid hfine hb1 hb1W hb1w hb2 hb2w hbW hbw heq
          rw [hW2] at HC
          go_wp2_with fail
          refine HC.mono ?_
          rintro e w3 ⟨V, rfl, hT, hV, hb3, hFr⟩
          rw [← hW2] at hV
          rw [← hW2] at hb3
          have hq3 : w3.heap[w.heap.size]? = some (.cells #[.slice none 0 0, .slice none 0 0] 30 (0, 0)) := by rw [hb3.block _ (by omega)]; exact hq2
          obtain ⟨q0', q1', p0', p1'⟩ := cell_two hq3
          clear HC
          go_wp2
          obtain ⟨r1, r2, r3⟩ := res_two (u := .slice (some ⟨V.ba, V.oa, none⟩) hs'.length V.ca) (v := .slice (some ⟨V.bn, V.on, none⟩) hs'.length V.cn) hq3
          refine bodyPost_ret (v := .tuple #[.agg #[.slice (some ⟨V.ba, V.oa, none⟩) hs'.length V.ca, .slice (some ⟨V.bn, V.on, none⟩) hs'.length V.cn], .bool true]) (by simp [results, Try.results75, go_sem, r1, r2]) rfl ?_
          have hT1 := (hT.set hV (p := ⟨w.heap.size, 0, none⟩) (by simp <;> omega) (.slice (some ⟨V.ba, V.oa, none⟩) hs'.length V.ca)).set hV (p := ⟨w.heap.size, 1, none⟩) (by simp <;> omega) (.slice (some ⟨V.bn, V.on, none⟩) hs'.length V.cn)
          have hB := HBW.out.trans (hb3.mono (by omega))
          exact ⟨(hB.setCell (p := ⟨w.heap.size, 0, none⟩) (by simp <;> omega) _).setCell (p := ⟨w.heap.size, 1, none⟩) (by simp <;> omega) _, .inl ⟨_, hs', V, HST.out, hle', rfl, hT1, ⟨by have := hV.a; omega, by have := hV.b; omega, fun i hi => by have := hV.r i hi; omega⟩, (hFr.set _ _ _).set _ _ _⟩⟩
        · omega
      · have hbe : ((hs'.length : Int) == (hs.length : Int)) = false := by simp; omega
        obtain ⟨ao', lo', co', rfl⟩ : ∃ ao lo co, vo' = .slice ao lo co := by
          rcases hcase with ⟨_, ⟨g, c, rfl, _, _⟩, _⟩ | ⟨_, h, _⟩
          · exact ⟨_, _, _, rfl⟩
          · exact h
        have HCA : Hid _ := hcase
        have HN : Hid _ := hN'
        have HB1 : Hid _ := hb1
        have HB1W : Hid _ := hb1W
        have HMID : Hid _ := hmid
        have HFI : Hid _ := hfine
        have HNX : Hid _ := hnx
        clear hcase hN' hb1 hb1W hmid hfine hnx hM
        go_wp2_with fail
        go_roundg (most + 1 - hs'.length)
        case measure =>
          rcases HCA.out with ⟨hl', ⟨g, c, _, _, hof⟩, hrel'⟩ | ⟨hl', _⟩
          · have := split_len_le HMID.out HFI.out hrel'
            omega
          · omega
        case rel =>
          have hwE : Below w1.heap.size w1 (w1.alloc (.cells #[.slice ao' lo' co', .slice (some ⟨gh', 0, none⟩) hs'.length ch'] 149)) := (Below.refl _ _).alloc (Nat.le_refl _) _
          have hba : ((w1.setCell ⟨w.heap.size + 1 + 1 + 1, 0, none⟩ (.slice ao' lo' co')).setCell ⟨w.heap.size + 1 + 1 + 1, 1, none⟩ (.slice (some ⟨gh', 0, none⟩) hs'.length ch')).heap.size = w1.heap.size := by simp
          refine ⟨.slice ao' lo' co', gh', ch', hs', ⟨?_, ?_, ?_, ?_⟩⟩
          · exact ((HB1W.out.setCell (p := ⟨w.heap.size + 1 + 1 + 1, 0, none⟩) (Nat.le_refl _) _).setCell (p := ⟨w.heap.size + 1 + 1 + 1, 1, none⟩) (Nat.le_refl _) _).alloc (by rw [hba]; omega) _
          · exact heap_at_old (two_set1 (two_set0 hpb))
          · exact ((NatsAt.set (NatsAt.set HN.out (by simp; omega) _) (by simp; omega) _)).below ((Below.refl _ _).alloc (Nat.le_refl _) _)
          · rcases HCA.out with ⟨hl', ⟨g, c, e, hgg, hof⟩, hrel'⟩ | ⟨hl', h2, h3, h4⟩
            · have hlen := split_len_le HMID.out HFI.out hrel'
              exact .inl ⟨by omega, hl', fun i => os.getD i 0, g, c, e, ((hof.set (by simp; omega) _).set (by simp; omega) _).below ((Below.refl _ _).alloc (Nat.le_refl _) _), HMID.out.step HNX.out hrel', Fine.step HNX.out HFI.out hrel'⟩
            · exact .inr ⟨by omega, by omega, by omega, h2, h3, fun c d hcd hd => apart_of_not_alike HNX.out HMID.out.apart _ _ (h3 c (by omega)) (h3 d hd) (h4 c d hcd hd)⟩
    · have hm : ¬ hs.length ≤ most := by omega
      go_wp2_with fail
      obtain ⟨r1, r2, r3⟩ := res_two (u := .slice none 0 0) (v := .slice none 0 0) hq
      refine bodyPost_ret (v := .tuple #[.agg #[.slice none 0 0, .slice none 0 0], .bool false]) (by simp [results, Try.results75, go_sem, r1, r2]) rfl ?_
      exact ⟨(hbw.setCell (p := ⟨w.heap.size, 0, none⟩) (by simp <;> omega) _).setCell (p := ⟨w.heap.size, 1, none⟩) (by simp <;> omega) _, .inr ⟨rfl, hs, hgt, hlt, hap⟩⟩
end Go.Proofs.Ytpngikmcjkjdaab
