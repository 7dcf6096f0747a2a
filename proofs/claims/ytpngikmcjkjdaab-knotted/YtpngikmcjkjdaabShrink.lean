import Derived.Test.YtpngikmcjkjdaabMerge
import Derived.Deep.LoopGhost
namespace Go.Proofs.Ytpngikmcjkjdaab
open Go.RowKit
set_option linter.unusedVariables false

/-- What shrink answers. -/
def ShrinkPost (M : Tab) (most : Nat) (w : World) (e : Ending) (w' : World) : Prop :=
  Below w.heap.size w w' ∧
    ((∃ (f : Nat → Nat) (hs : List Nat) (V : Lay), Stable M f hs ∧ hs.length ≤ most ∧ e = .returned (.tuple #[.agg #[.slice (some ⟨V.ba, V.oa, none⟩) hs.length V.ca, .slice (some ⟨V.bn, V.on, none⟩) hs.length V.cn], .bool true]) ∧ TabAt w' V (merged M f hs) ∧ V.From w.heap.size hs.length ∧ Fresh w' V hs.length) ∨
     (e = .returned (.tuple #[.agg #[.slice none 0 0, .slice none 0 0], .bool false]) ∧ ∃ hs : List Nat, most < hs.length ∧ (∀ c, c < hs.length → hs.getD c 0 < M.n) ∧ ∀ c d, c < d → d < hs.length → Apart M (hs.getD c 0) (hs.getD d 0)))

/-- The parting in the variable 'parted', in block b. -/
structure PartAt (M : Tab) (most b : Nat) (W w : World) (k : Nat) (vo : Value) (gh ch : Nat) (hs : List Nat) : Prop where
  blw : Below b W w
  blk : w.heap[b]? = some (.cells #[vo, .slice (some ⟨gh, 0, none⟩) hs.length ch] 149 (0, 0))
  hds : NatsAt w gh hs.length (fun i => hs.getD i 0)
  cas : (hs.length + k = most + 1 ∧ hs.length ≤ most ∧ ∃ f go co, vo = .slice (some ⟨go, 0, none⟩) M.n co ∧ NatsAt w go M.n f ∧ Mid M f hs ∧ Fine M f) ∨
    (k = 0 ∧ most < hs.length ∧ hs.length ≤ 41 ∧ (∃ ao lo co, vo = .slice ao lo co) ∧ (∀ c, c < hs.length → hs.getD c 0 < M.n) ∧ ∀ c d, c < d → d < hs.length → Apart M (hs.getD c 0) (hs.getD d 0))

set_option maxRecDepth 20000 in
set_option maxHeartbeats 2000000 in
theorem shrink_ok (gw ga ca gn cn : Nat) (M : Tab) (most : Nat) (w : World) (hM : WideAt w gw ga ca gn cn M)
    (hm0 : 1 ≤ most) (hm1 : most ≤ 40) (hn0 : 1 ≤ M.n) (hn : M.n ≤ 100000000) (hnx : ∀ i c, i < M.n → c < 8 → M.nxt i c < M.n) :
    Calls Try.prog 75 #[.pointer (some ⟨gw, 0, none⟩), .int .i64 most] w (ShrinkPost M most w) := by
  have mk3 := run_make_row' (P := Try.prog) 22 3 (.int .i64 0) 8 Try.underlying22 Try.info3 rfl .i64 .i64 M.n (by omega) (by omega)
  obtain ⟨W, hW⟩ : ∃ W, W = (((w.alloc (.cells #[.slice none 0 0, .slice none 0 0] 30)).alloc
      (.cells (madeCells #[.int .i64 0] M.n) 3)).alloc (.cells #[.int .i64 0] 3)).alloc (.cells #[.slice (some ⟨w.heap.size + 1, 0, none⟩) M.n M.n, .slice (some ⟨w.heap.size + 1 + 1, 0, none⟩) 1 1] 149) := ⟨_, rfl⟩
  have BW : Below w.heap.size w W := by
    rw [hW]; exact ((((Below.refl _ _).alloc (Nat.le_refl _) _).alloc (by simp) _).alloc (by simp; omega) _).alloc (by simp; omega) _
  have hWs : W.heap.size = w.heap.size + 1 + 1 + 1 + 1 := by rw [hW]; simp
  have k2 : W.heap[w.heap.size]? = some (.cells #[.slice none 0 0, .slice none 0 0] 30 (0, 0)) := by rw [hW]; exact heap_at_old (heap_at_old (heap_at_old (heap_at_new (by simp))))
  have k3 : W.heap[w.heap.size + 1]? = some (.cells (madeCells #[.int .i64 0] M.n) 3 (0, 0)) := by rw [hW]; exact heap_at_old (heap_at_old (heap_at_new (by simp)))
  have k4 : W.heap[w.heap.size + 1 + 1]? = some (.cells #[.int .i64 0] 3 (0, 0)) := by rw [hW]; exact heap_at_old (heap_at_new (by simp))
  have k5 : W.heap[w.heap.size + 1 + 1 + 1]? = some (.cells #[.slice (some ⟨w.heap.size + 1, 0, none⟩) M.n M.n, .slice (some ⟨w.heap.size + 1 + 1, 0, none⟩) 1 1] 149 (0, 0)) := by rw [hW]; exact heap_at_new (by simp)
  have P0 : PartAt M most (w.heap.size + 1 + 1 + 1) W W most (.slice (some ⟨w.heap.size + 1, 0, none⟩) M.n M.n) (w.heap.size + 1 + 1) 1 [0] :=
    ⟨Below.refl _ _, k5, fun i hi => by have : i = 0 := by simp at hi; omega
                                        subst this; simpa using cell_of_one k4,
      .inl ⟨by simp; omega, by simpa using hm0, fun _ => 0, _, _, rfl, fun i hi => (madeCells_rowIs k3).cell hi, Mid.first hn0, Fine.first M⟩⟩
  have xp := hM.p0
  have hgw := lt_of_cell hM.p0
  go_enter Try.func75, Try.ntmps75
  go_wp2_with fail
  rw [← hW]
  clear hW mk3 k3 k4 k5 xp hgw
  go_loopg [7] most (fun k _ wr => ∃ vo gh ch hs, PartAt M most (w.heap.size + 1 + 1 + 1) W wr k vo gh ch hs)
  case atStart => exact ⟨_, _, _, _, P0⟩
  case round =>
    obtain ⟨vo, gh, ch, hs, hP⟩ := hrel
    clear P0
    have hbW := hP.blw
    have hbw : Below w.heap.size w wr := BW.trans (hbW.mono (by omega))
    have hq : wr.heap[w.heap.size]? = some (.cells #[.slice none 0 0, .slice none 0 0] 30 (0, 0)) := (hbW.block _ (by omega)).trans k2
    obtain ⟨q0, q1, p0, p1⟩ := cell_two hq
    obtain ⟨y0, y1, z0, z1⟩ := cell_two hP.blk
    rcases hP.cas with ⟨hk, hle, f, go, co, rfl, hf, hmid, hfine⟩ | ⟨rfl, hgt, h41, ⟨ao, lo, co, rfl⟩, hlt, hap⟩
    · have HC := split_ok gw ga ca gn cn go co hs.length ch (some ⟨gh, 0, none⟩) M f most wr (hM.below hbw) hf hm0 hm1 hn0 hn hnx
      have HP : Hid (PartAt M most (w.heap.size + 1 + 1 + 1) W wr gk (.slice (some ⟨go, 0, none⟩) M.n co) gh ch hs) := hP
      clear hP hf
      go_wp2_with fail
      refine HC.mono ?_
      rintro e w1 ⟨hb1, vo', gh', ch', os, hs', rfl, hgl, hN', hcase⟩
      clear HC y0 y1 z0 z1 hq q0 q1 p0 p1
      have hsz := heap_lt HP.out.blk
      have hb1W : Below (w.heap.size + 1 + 1 + 1) W w1 := hbW.trans (hb1.mono (by omega))
      have hb1w : Below w.heap.size w w1 := hbw.trans (hb1.mono (by omega))
      have hq : w1.heap[w.heap.size]? = some (.cells #[.slice none 0 0, .slice none 0 0] 30 (0, 0)) := (hb1W.block _ (by omega)).trans k2
      obtain ⟨q0, q1, p0, p1⟩ := cell_two hq
      have hpb : w1.heap[w.heap.size + 1 + 1 + 1]? = some (.cells #[.slice (some ⟨go, 0, none⟩) M.n co, .slice (some ⟨gh, 0, none⟩) hs.length ch] 149 (0, 0)) := by rw [hb1.block _ hsz]; exact HP.out.blk
      obtain ⟨y0, y1, z0, z1⟩ := cell_two hpb
      have hsz1 := heap_lt hpb
      have hszA : w.heap.size < w1.heap.size := by omega
      have hszB : w.heap.size < w1.heap.size := by omega
      by_cases heq : hs'.length = hs.length
      · rcases hcase with ⟨hle', ⟨go', co', rfl, _, hof⟩, hrel'⟩ | ⟨he, _⟩
        · have hst := stable_of_len hnx hmid hfine hrel' heq
          have hlpos : 1 ≤ hs'.length := by have := hrel'.cls.lt 0 (by omega); omega
          obtain ⟨W2, hW2⟩ : ∃ W2, W2 = w1.alloc (.cells #[.slice (some ⟨go', 0, none⟩) M.n co', .slice (some ⟨gh', 0, none⟩) hs'.length ch'] 149) := ⟨_, rfl⟩
          have hb2 : Below w1.heap.size w1 W2 := by rw [hW2]; exact (Below.refl _ _).alloc (Nat.le_refl _) _
          have HC := merge_ok gw ga ca gn cn go' co' gh' ch' M (fun i => os.getD i 0) hs' W2 ((hM.below hb1w).below hb2) (hof.below hb2) (hN'.below hb2) hlpos (by omega) (fun c hc => (hrel'.cls.hd c hc).1) hn hnx
          have hb2w : Below w.heap.size w W2 := hb1w.trans (hb2.mono (by omega))
          have HST : Hid (Stable M (fun i => os.getD i 0) hs') := hst
          have hq2 : W2.heap[w.heap.size]? = some (.cells #[.slice none 0 0, .slice none 0 0] 30 (0, 0)) := by rw [hb2.block _ (by omega)]; exact hq
          have hs2 : w1.heap.size ≤ W2.heap.size := hb2.size
          have hbe : ((hs'.length : Int) == (hs.length : Int)) = true := by simp; omega
          have HBW : Hid (Below w.heap.size w W2) := hb2w
          have HHE : Hid (hs'.length = hs.length) := heq
          clear hst hrel' hof hN' hM hnx hmid hfine hb1 hb1W hb1w hb2 hb2w hbW hbw heq
          rw [hW2] at HC
          go_wp2_with fail
          refine HC.mono ?_
          rintro e w3 ⟨V, rfl, hT, hV, hb3, hFr⟩
          rw [← hW2] at hV
          rw [← hW2] at hb3
          have hq3 : w3.heap[w.heap.size]? = some (.cells #[.slice none 0 0, .slice none 0 0] 30 (0, 0)) := by rw [hb3.block _ (by omega)]; exact hq2
          obtain ⟨q0', q1', p0', p1'⟩ := cell_two hq3
          clear HC
          go_wp2
          obtain ⟨r1, r2, r3⟩ := res_two (u := .slice (some ⟨V.ba, V.oa, none⟩) hs'.length V.ca) (v := .slice (some ⟨V.bn, V.on, none⟩) hs'.length V.cn) hq3
          refine bodyPost_ret (v := .tuple #[.agg #[.slice (some ⟨V.ba, V.oa, none⟩) hs'.length V.ca, .slice (some ⟨V.bn, V.on, none⟩) hs'.length V.cn], .bool true]) (by simp [results, Try.results75, go_sem, r1, r2]) rfl ?_
          have hT1 := (hT.set hV (p := ⟨w.heap.size, 0, none⟩) (by simp <;> omega) (.slice (some ⟨V.ba, V.oa, none⟩) hs'.length V.ca)).set hV (p := ⟨w.heap.size, 1, none⟩) (by simp <;> omega) (.slice (some ⟨V.bn, V.on, none⟩) hs'.length V.cn)
          have hB := HBW.out.trans (hb3.mono (by omega))
          exact ⟨(hB.setCell (p := ⟨w.heap.size, 0, none⟩) (by simp <;> omega) _).setCell (p := ⟨w.heap.size, 1, none⟩) (by simp <;> omega) _, .inl ⟨_, hs', V, HST.out, hle', rfl, hT1, ⟨by have := hV.a; omega, by have := hV.b; omega, fun i hi => by have := hV.r i hi; omega⟩, (hFr.set _ _ _).set _ _ _⟩⟩
        · omega
      · have hbe : ((hs'.length : Int) == (hs.length : Int)) = false := by simp; omega
        obtain ⟨ao', lo', co', rfl⟩ : ∃ ao lo co, vo' = .slice ao lo co := by
          rcases hcase with ⟨_, ⟨g, c, rfl, _, _⟩, _⟩ | ⟨_, h, _⟩
          · exact ⟨_, _, _, rfl⟩
          · exact h
        have HCA : Hid _ := hcase
        have HN : Hid _ := hN'
        have HB1 : Hid _ := hb1
        have HB1W : Hid _ := hb1W
        have HMID : Hid _ := hmid
        have HFI : Hid _ := hfine
        have HNX : Hid _ := hnx
        clear hcase hN' hb1 hb1W hmid hfine hnx hM
        go_wp2_with fail
        go_roundg (most + 1 - hs'.length)
        case measure =>
          rcases HCA.out with ⟨hl', ⟨g, c, _, _, hof⟩, hrel'⟩ | ⟨hl', _⟩
          · have := split_len_le HMID.out HFI.out hrel'
            omega
          · omega
        case rel =>
          have hwE : Below w1.heap.size w1 (w1.alloc (.cells #[.slice ao' lo' co', .slice (some ⟨gh', 0, none⟩) hs'.length ch'] 149)) := (Below.refl _ _).alloc (Nat.le_refl _) _
          have hba : ((w1.setCell ⟨w.heap.size + 1 + 1 + 1, 0, none⟩ (.slice ao' lo' co')).setCell ⟨w.heap.size + 1 + 1 + 1, 1, none⟩ (.slice (some ⟨gh', 0, none⟩) hs'.length ch')).heap.size = w1.heap.size := by simp
          refine ⟨.slice ao' lo' co', gh', ch', hs', ⟨?_, ?_, ?_, ?_⟩⟩
          · exact ((HB1W.out.setCell (p := ⟨w.heap.size + 1 + 1 + 1, 0, none⟩) (Nat.le_refl _) _).setCell (p := ⟨w.heap.size + 1 + 1 + 1, 1, none⟩) (Nat.le_refl _) _).alloc (by rw [hba]; omega) _
          · exact heap_at_old (two_set1 (two_set0 hpb))
          · exact ((NatsAt.set (NatsAt.set HN.out (by simp; omega) _) (by simp; omega) _)).below ((Below.refl _ _).alloc (Nat.le_refl _) _)
          · rcases HCA.out with ⟨hl', ⟨g, c, e, hgg, hof⟩, hrel'⟩ | ⟨hl', h2, h3, h4⟩
            · have hlen := split_len_le HMID.out HFI.out hrel'
              exact .inl ⟨by omega, hl', fun i => os.getD i 0, g, c, e, ((hof.set (by simp; omega) _).set (by simp; omega) _).below ((Below.refl _ _).alloc (Nat.le_refl _) _), HMID.out.step HNX.out hrel', Fine.step HNX.out HFI.out hrel'⟩
            · exact .inr ⟨by omega, by omega, by omega, h2, h3, fun c d hcd hd => apart_of_not_alike HNX.out HMID.out.apart _ _ (h3 c (by omega)) (h3 d hd) (h4 c d hcd hd)⟩
    · have hm : ¬ hs.length ≤ most := by omega
      go_wp2_with fail
      obtain ⟨r1, r2, r3⟩ := res_two (u := .slice none 0 0) (v := .slice none 0 0) hq
      refine bodyPost_ret (v := .tuple #[.agg #[.slice none 0 0, .slice none 0 0], .bool false]) (by simp [results, Try.results75, go_sem, r1, r2]) rfl ?_
      exact ⟨(hbw.setCell (p := ⟨w.heap.size, 0, none⟩) (by simp <;> omega) _).setCell (p := ⟨w.heap.size, 1, none⟩) (by simp <;> omega) _, .inr ⟨rfl, hs, hgt, hlt, hap⟩⟩
end Go.Proofs.Ytpngikmcjkjdaab
