import Derived.Deep.AppendLies
import Derived.Deep.LoopGhost
import Derived.Deep.RegionLaw
import Derived.Test.YtpngikmcjkjdaabG2
set_option linter.unusedVariables false
set_option linter.unusedSimpArgs false
namespace Go.Proofs.Ytpngikmcjkjdaab
open Go.RowKit
set_option linter.unusedVariables false
def ShrinkPost (M : Tab) (most : Nat) (w : World) (e : Ending) (w' : World) : Prop :=
  Below w.heap.size w w' ∧
    ((∃ (f : Nat → Nat) (hs : List Nat) (V : Lay), Stable M f hs ∧ hs.length ≤ most ∧ e = .returned (.tuple #[.agg #[.slice (some ⟨V.ba, V.oa, none⟩) hs.length V.ca, .slice (some ⟨V.bn, V.on, none⟩) hs.length V.cn], .bool true]) ∧ TabAt w' V (merged M f hs) ∧ V.From w.heap.size hs.length ∧ Fresh w' V hs.length) ∨
     (e = .returned (.tuple #[.agg #[.slice none 0 0, .slice none 0 0], .bool false]) ∧ ∃ hs : List Nat, most < hs.length ∧ (∀ c, c < hs.length → hs.getD c 0 < M.n) ∧ ∀ c d, c < d → d < hs.length → Apart M (hs.getD c 0) (hs.getD d 0)))
structure PartAt (M : Tab) (most b : Nat) (W w : World) (k : Nat) (vo : Value) (gh ch : Nat) (hs : List Nat) : Prop where
  blw : Below b W w
  blk : w.heap[b]? = some (.cells #[vo, .slice (some ⟨gh, 0, none⟩) hs.length ch] 149 (0, 0))
  hds : NatsAt w gh hs.length (fun i => hs.getD i 0)
  cas : (hs.length + k = most + 1 ∧ hs.length ≤ most ∧ ∃ f go co, vo = .slice (some ⟨go, 0, none⟩) M.n co ∧ NatsAt w go M.n f ∧ Mid M f hs ∧ Fine M f) ∨
    (k = 0 ∧ most < hs.length ∧ hs.length ≤ 41 ∧ (∃ ao lo co, vo = .slice ao lo co) ∧ (∀ c, c < hs.length → hs.getD c 0 < M.n) ∧ ∀ c d, c < d → d < hs.length → Apart M (hs.getD c 0) (hs.getD d 0))
set_option maxRecDepth 20000 in
set_option maxHeartbeats 2000000 in
theorem shrink_ok (gw ga ca gn cn : Nat) (M : Tab) (most : Nat) (w : World) (hM : WideAt w gw ga ca gn cn M)
    (hm0 : 1 ≤ most) (hm1 : most ≤ 40) (hn0 : 1 ≤ M.n) (hn : M.n ≤ 100000000) (hnx : ∀ i c, i < M.n → c < 8 → M.nxt i c < M.n) :
    Calls Try.prog 75 #[.pointer (some ⟨gw, 0, none⟩), .int .i64 most] w (ShrinkPost M most w) := by
  have mk3 := run_make_row' (P := Try.prog) 22 3 (.int .i64 0) 8 Try.underlying22 Try.info3 rfl .i64 .i64 M.n (by omega) (by omega)
  obtain ⟨W, hW⟩ : ∃ W, W = (((w.alloc (.cells #[.slice none 0 0, .slice none 0 0] 30)).alloc
      (.cells (madeCells #[.int .i64 0] M.n) 3)).alloc (.cells #[.int .i64 0] 3)).alloc (.cells #[.slice (some ⟨w.heap.size + 1, 0, none⟩) M.n M.n, .slice (some ⟨w.heap.size + 1 + 1, 0, none⟩) 1 1] 149) := ⟨_, rfl⟩
  have BW : Below w.heap.size w W := by
    rw [hW]; exact ((((Below.refl _ _).alloc (Nat.le_refl _) _).alloc (by simp) _).alloc (by simp; omega) _).alloc (by simp; omega) _
  have hWs : W.heap.size = w.heap.size + 1 + 1 + 1 + 1 := by rw [hW]; simp
  have k2 : W.heap[w.heap.size]? = some (.cells #[.slice none 0 0, .slice none 0 0] 30 (0, 0)) := by rw [hW]; exact heap_at_old (heap_at_old (heap_at_old (heap_at_new (by simp))))
  have k3 : W.heap[w.heap.size + 1]? = some (.cells (madeCells #[.int .i64 0] M.n) 3 (0, 0)) := by rw [hW]; exact heap_at_old (heap_at_old (heap_at_new (by simp)))
  have k4 : W.heap[w.heap.size + 1 + 1]? = some (.cells #[.int .i64 0] 3 (0, 0)) := by rw [hW]; exact heap_at_old (heap_at_new (by simp))
  have k5 : W.heap[w.heap.size + 1 + 1 + 1]? = some (.cells #[.slice (some ⟨w.heap.size + 1, 0, none⟩) M.n M.n, .slice (some ⟨w.heap.size + 1 + 1, 0, none⟩) 1 1] 149 (0, 0)) := by rw [hW]; exact heap_at_new (by simp)
  have P0 : PartAt M most (w.heap.size + 1 + 1 + 1) W W most (.slice (some ⟨w.heap.size + 1, 0, none⟩) M.n M.n) (w.heap.size + 1 + 1) 1 [0] :=
    ⟨Below.refl _ _, k5, fun i hi => by have : i = 0 := by simp at hi; omega
                                        subst this; simpa using cell_of_one k4,
      .inl ⟨by simp; omega, by simpa using hm0, fun _ => 0, _, _, rfl, fun i hi => (madeCells_rowIs k3).cell hi, Mid.first hn0, Fine.first M⟩⟩
  have xp := hM.p0
  have hgw := lt_of_cell hM.p0
  go_enter Try.func75, Try.ntmps75
  go_wp2_with fail
  rw [← hW]
  clear hW mk3 k3 k4 k5 xp hgw
  go_loopg [7] most (fun k _ wr => ∃ vo gh ch hs, PartAt M most (w.heap.size + 1 + 1 + 1) W wr k vo gh ch hs)
  case atStart => exact ⟨_, _, _, _, P0⟩
  case round =>
    obtain ⟨vo, gh, ch, hs, hP⟩ := hrel
    clear P0
    have hbW := hP.blw
    have hbw : Below w.heap.size w wr := BW.trans (hbW.mono (by omega))
    have hq : wr.heap[w.heap.size]? = some (.cells #[.slice none 0 0, .slice none 0 0] 30 (0, 0)) := (hbW.block _ (by omega)).trans k2
    obtain ⟨q0, q1, p0, p1⟩ := cell_two hq
    obtain ⟨y0, y1, z0, z1⟩ := cell_two hP.blk
    rcases hP.cas with ⟨hk, hle, f, go, co, rfl, hf, hmid, hfine⟩ | ⟨rfl, hgt, h41, ⟨ao, lo, co, rfl⟩, hlt, hap⟩
    · have HC := split_ok gw ga ca gn cn go co hs.length ch (some ⟨gh, 0, none⟩) M f most wr (hM.below hbw) hf hm0 hm1 hn0 hn hnx
      have HP : Hid (PartAt M most (w.heap.size + 1 + 1 + 1) W wr gk (.slice (some ⟨go, 0, none⟩) M.n co) gh ch hs) := hP
      clear hP hf
      go_wp2_with fail
      refine HC.mono ?_
      rintro e w1 ⟨hb1, vo', gh', ch', os, hs', rfl, hgl, hN', hcase⟩
      clear HC y0 y1 z0 z1 hq q0 q1 p0 p1
      have hsz := heap_lt HP.out.blk
      have hb1W : Below (w.heap.size + 1 + 1 + 1) W w1 := hbW.trans (hb1.mono (by omega))
      have hb1w : Below w.heap.size w w1 := hbw.trans (hb1.mono (by omega))
      have hq : w1.heap[w.heap.size]? = some (.cells #[.slice none 0 0, .slice none 0 0] 30 (0, 0)) := (hb1W.block _ (by omega)).trans k2
      obtain ⟨q0, q1, p0, p1⟩ := cell_two hq
      have hpb : w1.heap[w.heap.size + 1 + 1 + 1]? = some (.cells #[.slice (some ⟨go, 0, none⟩) M.n co, .slice (some ⟨gh, 0, none⟩) hs.length ch] 149 (0, 0)) := by rw [hb1.block _ hsz]; exact HP.out.blk
      obtain ⟨y0, y1, z0, z1⟩ := cell_two hpb
      have hsz1 := heap_lt hpb
      have hszA : w.heap.size < w1.heap.size := by omega
      have hszB : w.heap.size < w1.heap.size := by omega
      by_cases heq : hs'.length = hs.length
      · rcases hcase with ⟨hle', ⟨go', co', rfl, _, hof⟩, hrel'⟩ | ⟨he, _⟩
        · have hst := stable_of_len hnx hmid hfine hrel' heq
          have hlpos : 1 ≤ hs'.length := by have := hrel'.cls.lt 0 (by omega); omega
          obtain ⟨W2, hW2⟩ : ∃ W2, W2 = w1.alloc (.cells #[.slice (some ⟨go', 0, none⟩) M.n co', .slice (some ⟨gh', 0, none⟩) hs'.length ch'] 149) := ⟨_, rfl⟩
          have hb2 : Below w1.heap.size w1 W2 := by rw [hW2]; exact (Below.refl _ _).alloc (Nat.le_refl _) _
          have HC := merge_ok gw ga ca gn cn go' co' gh' ch' M (fun i => os.getD i 0) hs' W2 ((hM.below hb1w).below hb2) (hof.below hb2) (hN'.below hb2) hlpos (by omega) (fun c hc => (hrel'.cls.hd c hc).1) hn hnx
          have hb2w : Below w.heap.size w W2 := hb1w.trans (hb2.mono (by omega))
          have HST : Hid (Stable M (fun i => os.getD i 0) hs') := hst
          have hq2 : W2.heap[w.heap.size]? = some (.cells #[.slice none 0 0, .slice none 0 0] 30 (0, 0)) := by rw [hb2.block _ (by omega)]; exact hq
          have hs2 : w1.heap.size ≤ W2.heap.size := hb2.size
          have hbe : ((hs'.length : Int) == (hs.length : Int)) = true := by simp; omega
          have HBW : Hid (Below w.heap.size w W2) := hb2w
          have HHE : Hid (hs'.length = hs.length) := heq
          clear hst hrel' hof hN' hM hnx hmid hfine hb1 hb1W hb1w hb2 hb2w hbW hbw heq
          rw [hW2] at HC
          go_wp2_with fail
          refine HC.mono ?_
          rintro e w3 ⟨V, rfl, hT, hV, hb3, hFr⟩
          rw [← hW2] at hV
          rw [← hW2] at hb3
          have hq3 : w3.heap[w.heap.size]? = some (.cells #[.slice none 0 0, .slice none 0 0] 30 (0, 0)) := by rw [hb3.block _ (by omega)]; exact hq2
          obtain ⟨q0', q1', p0', p1'⟩ := cell_two hq3
          clear HC
          go_wp2
          obtain ⟨r1, r2, r3⟩ := res_two (u := .slice (some ⟨V.ba, V.oa, none⟩) hs'.length V.ca) (v := .slice (some ⟨V.bn, V.on, none⟩) hs'.length V.cn) hq3
          refine bodyPost_ret (v := .tuple #[.agg #[.slice (some ⟨V.ba, V.oa, none⟩) hs'.length V.ca, .slice (some ⟨V.bn, V.on, none⟩) hs'.length V.cn], .bool true]) (by simp [results, Try.results75, go_sem, r1, r2]) rfl ?_
          have hT1 := (hT.set hV (p := ⟨w.heap.size, 0, none⟩) (by simp <;> omega) (.slice (some ⟨V.ba, V.oa, none⟩) hs'.length V.ca)).set hV (p := ⟨w.heap.size, 1, none⟩) (by simp <;> omega) (.slice (some ⟨V.bn, V.on, none⟩) hs'.length V.cn)
          have hB := HBW.out.trans (hb3.mono (by omega))
          exact ⟨(hB.setCell (p := ⟨w.heap.size, 0, none⟩) (by simp <;> omega) _).setCell (p := ⟨w.heap.size, 1, none⟩) (by simp <;> omega) _, .inl ⟨_, hs', V, HST.out, hle', rfl, hT1, ⟨by have := hV.a; omega, by have := hV.b; omega, fun i hi => by have := hV.r i hi; omega⟩, (hFr.set _ _ _).set _ _ _⟩⟩
        · omega
      · have hbe : ((hs'.length : Int) == (hs.length : Int)) = false := by simp; omega
        obtain ⟨ao', lo', co', rfl⟩ : ∃ ao lo co, vo' = .slice ao lo co := by
          rcases hcase with ⟨_, ⟨g, c, rfl, _, _⟩, _⟩ | ⟨_, h, _⟩
          · exact ⟨_, _, _, rfl⟩
          · exact h
        have HCA : Hid _ := hcase
        have HN : Hid _ := hN'
        have HB1 : Hid _ := hb1
        have HB1W : Hid _ := hb1W
        have HMID : Hid _ := hmid
        have HFI : Hid _ := hfine
        have HNX : Hid _ := hnx
        clear hcase hN' hb1 hb1W hmid hfine hnx hM
        go_wp2_with fail
        go_roundg (most + 1 - hs'.length)
        case measure =>
          rcases HCA.out with ⟨hl', ⟨g, c, _, _, hof⟩, hrel'⟩ | ⟨hl', _⟩
          · have := split_len_le HMID.out HFI.out hrel'
            omega
          · omega
        case rel =>
          have hwE : Below w1.heap.size w1 (w1.alloc (.cells #[.slice ao' lo' co', .slice (some ⟨gh', 0, none⟩) hs'.length ch'] 149)) := (Below.refl _ _).alloc (Nat.le_refl _) _
          have hba : ((w1.setCell ⟨w.heap.size + 1 + 1 + 1, 0, none⟩ (.slice ao' lo' co')).setCell ⟨w.heap.size + 1 + 1 + 1, 1, none⟩ (.slice (some ⟨gh', 0, none⟩) hs'.length ch')).heap.size = w1.heap.size := by simp
          refine ⟨.slice ao' lo' co', gh', ch', hs', ⟨?_, ?_, ?_, ?_⟩⟩
          · exact ((HB1W.out.setCell (p := ⟨w.heap.size + 1 + 1 + 1, 0, none⟩) (Nat.le_refl _) _).setCell (p := ⟨w.heap.size + 1 + 1 + 1, 1, none⟩) (Nat.le_refl _) _).alloc (by rw [hba]; omega) _
          · exact heap_at_old (two_set1 (two_set0 hpb))
          · exact ((NatsAt.set (NatsAt.set HN.out (by simp; omega) _) (by simp; omega) _)).below ((Below.refl _ _).alloc (Nat.le_refl _) _)
          · rcases HCA.out with ⟨hl', ⟨g, c, e, hgg, hof⟩, hrel'⟩ | ⟨hl', h2, h3, h4⟩
            · have hlen := split_len_le HMID.out HFI.out hrel'
              exact .inl ⟨by omega, hl', fun i => os.getD i 0, g, c, e, ((hof.set (by simp; omega) _).set (by simp; omega) _).below ((Below.refl _ _).alloc (Nat.le_refl _) _), HMID.out.step HNX.out hrel', Fine.step HNX.out HFI.out hrel'⟩
            · exact .inr ⟨by omega, by omega, by omega, h2, h3, fun c d hcd hd => apart_of_not_alike HNX.out HMID.out.apart _ _ (h3 c (by omega)) (h3 d hd) (h4 c d hcd hd)⟩
    · have hm : ¬ hs.length ≤ most := by omega
      go_wp2_with fail
      obtain ⟨r1, r2, r3⟩ := res_two (u := .slice none 0 0) (v := .slice none 0 0) hq
      refine bodyPost_ret (v := .tuple #[.agg #[.slice none 0 0, .slice none 0 0], .bool false]) (by simp [results, Try.results75, go_sem, r1, r2]) rfl ?_
      exact ⟨(hbw.setCell (p := ⟨w.heap.size, 0, none⟩) (by simp <;> omega) _).setCell (p := ⟨w.heap.size, 1, none⟩) (by simp <;> omega) _, .inr ⟨rfl, hs, hgt, hlt, hap⟩⟩
end Go.Proofs.Ytpngikmcjkjdaab

namespace Go.Proofs.Ytpngikmcjkjdaab
open Go.RowKit
set_option linter.unusedVariables false
def LeastPost (L : List Nat → Bool) (budget bound : Nat) (w : World) (e : Ending) (w' : World) : Prop :=
  Below w.heap.size w w' ∧
    ((∃ (R : Tab) (V : Lay), IsLeast R L ∧ R.n ≤ budget ∧ e = .returned (.tuple #[.agg #[.slice (some ⟨V.ba, V.oa, none⟩) R.n V.ca, .slice (some ⟨V.bn, V.on, none⟩) R.n V.cn], .int .i64 0]) ∧ TabAt w' V R ∧ V.From w.heap.size R.n ∧ Fresh w' V R.n) ∨
     (e = .returned (.tuple #[.agg #[.slice none 0 0, .slice none 0 0], .int .i64 5]) ∧ budget < bound ∧ ∀ R, IsLeast R L → budget < R.n))
theorem apart_ne {M : Tab} {i j : Nat} (h : Apart M i j) : i ≠ j := by
  intro e; subst e; obtain ⟨x, _, hd⟩ := h; exact hd rfl
theorem heads_le {M : Tab} (hs : List Nat) (hlt : ∀ c, c < hs.length → hs.getD c 0 < M.n) (hap : ∀ c d, c < d → d < hs.length → Apart M (hs.getD c 0) (hs.getD d 0)) : hs.length ≤ M.n := by
  refine nodup_bound M.n hs ?_ ?_
  · rw [List.Nodup, List.pairwise_iff_getElem]
    intro i j hi hj hij e
    have := apart_ne (hap i j hij hj)
    rw [List.getD_eq_getElem?_getD, List.getElem?_eq_getElem hi, List.getD_eq_getElem?_getD, List.getElem?_eq_getElem hj] at this
    exact this e
  · intro x hx
    obtain ⟨c, hc, rfl⟩ := mem_getD hx
    exact hlt c hc
theorem res_alloc {w : World} {b : Nat} {x y u v : Value} {t : TypeId} (h : w.heap[b]? = some (.cells #[x, y] t (0, 0))) (o : Obj) :
    (((w.setCell ⟨b, 0, none⟩ u).setCell ⟨b, 1, none⟩ v).alloc o).cell? ⟨b, 0, none⟩ = some u ∧ (((w.setCell ⟨b, 0, none⟩ u).setCell ⟨b, 1, none⟩ v).alloc o).cell? ⟨b, 1, none⟩ = some v :=
  ⟨(cell_two (heap_at_old (two_set1 (two_set0 h)))).1, (cell_two (heap_at_old (two_set1 (two_set0 h)))).2.1⟩
theorem below_res {w w5 : World} {b : Nat} (h : Below w.heap.size w w5) (hb : w.heap.size ≤ b) (u v : Value) : Below w.heap.size w ((w5.setCell ⟨b, 0, none⟩ u).setCell ⟨b, 1, none⟩ v) :=
  (h.setCell (p := ⟨b, 0, none⟩) hb _).setCell (p := ⟨b, 1, none⟩) hb _
theorem TabAt.res {w : World} {V : Lay} {M : Tab} (h : TabAt w V M) {N b : Nat} (hV : V.From N M.n) (hb : b < N) (u v : Value) : TabAt ((w.setCell ⟨b, 0, none⟩ u).setCell ⟨b, 1, none⟩ v) V M :=
  (h.set hV (p := ⟨b, 0, none⟩) hb u).set hV (p := ⟨b, 1, none⟩) hb v
theorem Lay.From.mono {V : Lay} {N N' n : Nat} (h : V.From N n) (hN : N' ≤ N) : V.From N' n := ⟨by have := h.a; omega, by have := h.b; omega, fun i hi => by have := h.r i hi; omega⟩
theorem Try.infoE : (Try.prog.info? 113).map (fun i => (i.zero, i.size, i.bytes)) = some (some (.agg #[.int .i64 0, .int .i64 0, .int .i64 0, .int .i64 0, .int .i64 0, .int .i64 0, .int .i64 0, .int .i64 0]), 8, 64) := by kernel_rfl
theorem cells_new (w : World) (l : Array Value) (t : TypeId) : ∀ j u, l.toList[j]? = some u → (w.alloc (.cells l t)).cell? ((⟨w.heap.size, 0, none⟩ : Addr).add j) = some u := by
  intro j u hu
  have hadd : (⟨w.heap.size, 0, none⟩ : Addr).add j = ⟨w.heap.size, j, none⟩ := by unfold Addr.add; split <;> simp_all
  rw [hadd, cell_of_row (w.alloc (.cells l t)) w.heap.size j l t (0, 0) (heap_at_new rfl)]
  simpa using hu
structure Touch (S : Nat → Prop) (w w' : World) : Prop where
  os : w'.os = w.os
  tape : w'.tape = w.tape
  output : w'.output = w.output
  size : w.heap.size ≤ w'.heap.size
  block : ∀ k, k < w.heap.size → ¬ S k → w'.heap[k]? = w.heap[k]?
theorem Touch.below {S : Nat → Prop} {W w w' : World} {B : Nat} (h : Touch S w w') (hb : Below B W w) (hB : B ≤ w.heap.size) (hS : ∀ k, S k → B ≤ k) : Below B W w' :=
  ⟨h.os.trans hb.os, h.tape.trans hb.tape, h.output.trans hb.output, Nat.le_trans hb.size h.size, fun k hk => (h.block k (by omega) (fun hs => by have := hS k hs; omega)).trans (hb.block k hk)⟩
theorem Touch.own {S : Nat → Prop} {w w' : World} {base e s n : Nat} {v : Value} {x : List Value} (h : Touch S w w') (ho : w.ownsRow base e s v n x) (hS : ∀ g, v.ownBlock = some g → ¬ S g) : w'.ownsRow base e s v n x := by
  refine ⟨ho.1, ?_⟩
  rcases ho.2 with ⟨rfl, hn⟩ | ⟨g, cap, cur, rfl, hb, hg, r⟩
  · exact .inl ⟨rfl, hn⟩
  · exact .inr ⟨g, cap, cur, rfl, hb, by rw [h.block g (heap_lt hg) (hS g rfl)]; exact hg, r⟩
theorem Touch.row {S : Nat → Prop} {w w' : World} {b t n : Nat} {f : Nat → Value} (h : Touch S w w') (hr : w.rowIs b t n f) (hS : ¬ S b) : w'.rowIs b t n f := hr.of_block (h.block b hr.lt hS)
theorem Touch.heap {S : Nat → Prop} {w w' : World} {b : Nat} {o : Obj} (h : Touch S w w') (hr : w.heap[b]? = some o) (hS : ¬ S b) : w'.heap[b]? = some o := by rw [h.block b (heap_lt hr) hS]; exact hr
theorem Touch.alloc {S : Nat → Prop} {w w' : World} (h : Touch S w w') (o : Obj) : Touch S w (w'.alloc o) :=
  ⟨h.os, h.tape, h.output, Nat.le_trans h.size (by simp), fun k hk hs => (Below.heap_alloc w' o k (Nat.lt_of_lt_of_le hk h.size)).trans (h.block k hk hs)⟩
theorem Touch.set {S : Nat → Prop} {w w' : World} (h : Touch S w w') (a : Addr) (u : Value) (ha : S a.block ∨ w.heap.size ≤ a.block) : Touch S w (w'.setCell a u) :=
  ⟨by rw [← h.os]; rfl, by rw [← h.tape]; rfl, by rw [← h.output]; rfl, Nat.le_trans h.size (by simp), fun k hk hs =>
    (Below.heap_setCell w' a u k (fun e => ha.elim (fun ha => hs (by rw [e]; exact ha)) (fun ha => by omega))).trans (h.block k hk hs)⟩
theorem Touch.grown {S : Nat → Prop} {w w' w2 : World} (h : Touch S w w') {row : Option Nat} (hg : w'.grownBy w2 row) (hr : ∀ k, row = some k → S k ∨ w.heap.size ≤ k) : Touch S w w2 :=
  ⟨hg.os.trans h.os, hg.tape.trans h.tape, hg.output.trans h.output, Nat.le_trans h.size hg.size, fun k hk hs =>
    (hg.block k (Nat.lt_of_lt_of_le hk h.size) (fun e => (hr k e.symm).elim (fun h1 => hs h1) (fun h1 => by omega))).trans (h.block k hk hs)⟩
theorem Touch.refl (S : Nat → Prop) (w : World) : Touch S w w := ⟨rfl, rfl, rfl, Nat.le_refl _, fun _ _ _ => rfl⟩
section
variable {w w2 : World}
theorem own_apart {base e e' s s' n n' : Nat} {v v' : Value} {x x' : List Value} (h : w.ownsRow base e s v n x) (h' : w.ownsRow base e' s' v' n' x') (hne : e ≠ e') (g : Nat) (hg : v.ownBlock = some g) (hg' : v'.ownBlock = some g) : False := by
  rcases h.2 with ⟨rfl, _⟩ | ⟨a, cap, cur, rfl, _, h1, _⟩
  · simp [Value.ownBlock] at hg
  · rcases h'.2 with ⟨rfl, _⟩ | ⟨a', cap', cur', rfl, _, h2, _⟩
    · simp [Value.ownBlock] at hg'
    · simp only [Value.ownBlock, Option.some.injEq] at hg hg'
      subst hg; subst hg'
      rw [h1] at h2
      simp only [Option.some.injEq, Obj.cells.injEq] at h2
      exact hne h2.2.1
theorem rowIs_grown {b t n : Nat} {f : Nat → Value} (h : w.rowIs b t n f) {row : Option Nat} (hg : w.grownBy w2 row) (hne : row ≠ some b) : w2.rowIs b t n f :=
  h.of_block (hg.block b h.lt (fun e => hne e.symm))
theorem ownsRow_set {base e s n : Nat} {v : Value} {x : List Value} (h : w.ownsRow base e s v n x) (a : Addr) (u : Value) (hne : ∀ g, v.ownBlock = some g → g ≠ a.block) : (w.setCell a u).ownsRow base e s v n x :=
  ownsRow_setCell_other h (fun e => hne _ e rfl) u
end
def row8 (r : Nat → Nat) : Array Value := #[.int .i64 ((r 0 : Nat) : Int), .int .i64 ((r 1 : Nat) : Int), .int .i64 ((r 2 : Nat) : Int), .int .i64 ((r 3 : Nat) : Int), .int .i64 ((r 4 : Nat) : Int), .int .i64 ((r 5 : Nat) : Int), .int .i64 ((r 6 : Nat) : Int), .int .i64 ((r 7 : Nat) : Int)]
theorem Try.idx0 (x0 x1 x2 x3 x4 x5 x6 x7 : Value) (w : World) : (Instr.index 113 (.agg #[x0, x1, x2, x3, x4, x5, x6, x7]) (.int .i64 0)).run Try.prog w = .ok x0 w := by kernel_rfl
theorem Try.idx1 (x0 x1 x2 x3 x4 x5 x6 x7 : Value) (w : World) : (Instr.index 113 (.agg #[x0, x1, x2, x3, x4, x5, x6, x7]) (.int .i64 1)).run Try.prog w = .ok x1 w := by kernel_rfl
theorem Try.idx2 (x0 x1 x2 x3 x4 x5 x6 x7 : Value) (w : World) : (Instr.index 113 (.agg #[x0, x1, x2, x3, x4, x5, x6, x7]) (.int .i64 2)).run Try.prog w = .ok x2 w := by kernel_rfl
theorem Try.idx3 (x0 x1 x2 x3 x4 x5 x6 x7 : Value) (w : World) : (Instr.index 113 (.agg #[x0, x1, x2, x3, x4, x5, x6, x7]) (.int .i64 3)).run Try.prog w = .ok x3 w := by kernel_rfl
theorem Try.idx4 (x0 x1 x2 x3 x4 x5 x6 x7 : Value) (w : World) : (Instr.index 113 (.agg #[x0, x1, x2, x3, x4, x5, x6, x7]) (.int .i64 4)).run Try.prog w = .ok x4 w := by kernel_rfl
theorem Try.idx5 (x0 x1 x2 x3 x4 x5 x6 x7 : Value) (w : World) : (Instr.index 113 (.agg #[x0, x1, x2, x3, x4, x5, x6, x7]) (.int .i64 5)).run Try.prog w = .ok x5 w := by kernel_rfl
theorem Try.idx6 (x0 x1 x2 x3 x4 x5 x6 x7 : Value) (w : World) : (Instr.index 113 (.agg #[x0, x1, x2, x3, x4, x5, x6, x7]) (.int .i64 6)).run Try.prog w = .ok x6 w := by kernel_rfl
theorem Try.idx7 (x0 x1 x2 x3 x4 x5 x6 x7 : Value) (w : World) : (Instr.index 113 (.agg #[x0, x1, x2, x3, x4, x5, x6, x7]) (.int .i64 7)).run Try.prog w = .ok x7 w := by kernel_rfl
set_option maxRecDepth 20000 in
set_option maxHeartbeats 2000000 in
theorem inOrder_ok (gn cn : Nat) (M : Tab) (w : World) (hcel : ∀ i c, i < M.n → c < 8 → w.cell? ⟨gn, i * 8 + c, none⟩ = some (.int .i64 (M.nxt i c))) (hN : Numbered M) (hn : M.n ≤ 100000000) :
    Calls Try.prog 74 #[.slice (some ⟨gn, 0, none⟩) M.n cn] w fun e w' => e = .returned (.bool true) ∧ w' = w := by
  have hcl := come_le hN
  go_enter Try.func74, Try.ntmps74
  go_wp2_with fail
  go_loop [3, 4] (fun cm i' => ∃ i : Nat, i ≤ M.n ∧ i' = .int .i64 i ∧ cm = .int .i64 (come M.nxt (8 * i))) (fun _ i' => M.n - (intOf i').toNat)
  case atStart => exact ⟨0, by omega, rfl, rfl⟩
  case round =>
    obtain ⟨i, hi, rfl, rfl⟩ := hrel
    have hc1 := hcl (8 * i) (by omega)
    have hcp := come_pos M.nxt (8 * i)
    by_cases hlt : i < M.n
    · have hrow := hN.row i hlt
      obtain ⟨cm0, HC0⟩ : ∃ x, Hid (come M.nxt (8 * i) = x) := ⟨_, rfl⟩
      rw [HC0.out] at hc1 hcp hrow ⊢
      have z0 := hcel i 0 hlt (by omega)
      have z1 := hcel i 1 hlt (by omega)
      have z2 := hcel i 2 hlt (by omega)
      have z3 := hcel i 3 hlt (by omega)
      have z4 := hcel i 4 hlt (by omega)
      have z5 := hcel i 5 hlt (by omega)
      have z6 := hcel i 6 hlt (by omega)
      have z7 := hcel i 7 hlt (by omega)
      rw [Nat.add_zero] at z0
      have HCL : Hid (∀ p, p ≤ 8 * M.n → come M.nxt p ≤ M.n) := hcl
      clear hcl hcel
      go_wp2_with fail
      clear z0 z1 z2 z3 z4 z5 z6 z7
      go_loop [3, 6, 20] (fun cm _ c' => ∃ c : Nat, c ≤ 8 ∧ c' = .int .i64 c ∧ cm = .int .i64 (come M.nxt (8 * i + c))) (fun _ _ c' => 8 - (intOf c').toNat)
      case atStart => exact ⟨0, by omega, rfl, by simp only [Nat.add_zero]; rw [HC0.out]⟩
      case round =>
        obtain ⟨c, hc, rfl, rfl⟩ := hrel
        have hc2 := HCL.out (8 * i + c) (by omega)
        have hcp2 := come_pos M.nxt (8 * i + c)
        by_cases hl8 : c < 8
        · have hnx := hN.nx i c hlt hl8
          have hst := hN.step (8 * i + c) (by omega)
          have HCS : Hid (come M.nxt (8 * i + (c + 1)) = max (come M.nxt (8 * i + c)) (M.nxt i c + 1)) := by
            unfold Hid; rw [← Nat.add_assoc]; simp only [come]
            rw [show (8 * i + c) / 8 = i by omega, show (8 * i + c) % 8 = c by omega]
          rw [show (8 * i + c) / 8 = i by omega, show (8 * i + c) % 8 = c by omega] at hst
          obtain ⟨cm, HC⟩ : ∃ x, Hid (come M.nxt (8 * i + c) = x) := ⟨_, rfl⟩
          have HCS2 : Hid (come M.nxt (8 * i + (c + 1)) = max cm (M.nxt i c + 1)) := by unfold Hid; rw [← HC.out]; exact HCS.out
          rw [HC.out] at hc2 hcp2 hst ⊢
          rcases (show c = 0 ∨ c = 1 ∨ c = 2 ∨ c = 3 ∨ c = 4 ∨ c = 5 ∨ c = 6 ∨ c = 7 by omega) with rfl | rfl | rfl | rfl | rfl | rfl | rfl | rfl
          · have ix := Try.idx0 (.int .i64 (M.nxt i 0)) (.int .i64 (M.nxt i 1)) (.int .i64 (M.nxt i 2)) (.int .i64 (M.nxt i 3)) (.int .i64 (M.nxt i 4)) (.int .i64 (M.nxt i 5)) (.int .i64 (M.nxt i 6)) (.int .i64 (M.nxt i 7))
            by_cases hq : M.nxt i 0 = cm
            · have hb : ((M.nxt i 0 : Int) == (cm : Int)) = true := by simp; omega
              have HQ : Hid (M.nxt i 0 = cm) := hq
              clear hq
              go_wp2_with fail
              go_round
              case rel =>
                refine ⟨0 + 1, by omega, by go_num, ?_⟩
                have := HQ.out
                rw [HCS2.out, show max cm (M.nxt i 0 + 1) = cm + 1 by omega]; go_num
              case measure => simp [intOf]
            · have hb : ((M.nxt i 0 : Int) == (cm : Int)) = false := by simp; omega
              have HQ : Hid (M.nxt i 0 < cm) := by unfold Hid; omega
              clear hq
              go_wp2_with fail
              go_round
              case rel =>
                refine ⟨0 + 1, by omega, by go_num, ?_⟩
                have := HQ.out
                rw [HCS2.out, show max cm (M.nxt i 0 + 1) = cm by omega]
              case measure => simp [intOf]
          · have ix := Try.idx1 (.int .i64 (M.nxt i 0)) (.int .i64 (M.nxt i 1)) (.int .i64 (M.nxt i 2)) (.int .i64 (M.nxt i 3)) (.int .i64 (M.nxt i 4)) (.int .i64 (M.nxt i 5)) (.int .i64 (M.nxt i 6)) (.int .i64 (M.nxt i 7))
            by_cases hq : M.nxt i 1 = cm
            · have hb : ((M.nxt i 1 : Int) == (cm : Int)) = true := by simp; omega
              have HQ : Hid (M.nxt i 1 = cm) := hq
              clear hq
              go_wp2_with fail
              go_round
              case rel =>
                refine ⟨1 + 1, by omega, by go_num, ?_⟩
                have := HQ.out
                rw [HCS2.out, show max cm (M.nxt i 1 + 1) = cm + 1 by omega]; go_num
              case measure => simp [intOf]
            · have hb : ((M.nxt i 1 : Int) == (cm : Int)) = false := by simp; omega
              have HQ : Hid (M.nxt i 1 < cm) := by unfold Hid; omega
              clear hq
              go_wp2_with fail
              go_round
              case rel =>
                refine ⟨1 + 1, by omega, by go_num, ?_⟩
                have := HQ.out
                rw [HCS2.out, show max cm (M.nxt i 1 + 1) = cm by omega]
              case measure => simp [intOf]
          · have ix := Try.idx2 (.int .i64 (M.nxt i 0)) (.int .i64 (M.nxt i 1)) (.int .i64 (M.nxt i 2)) (.int .i64 (M.nxt i 3)) (.int .i64 (M.nxt i 4)) (.int .i64 (M.nxt i 5)) (.int .i64 (M.nxt i 6)) (.int .i64 (M.nxt i 7))
            by_cases hq : M.nxt i 2 = cm
            · have hb : ((M.nxt i 2 : Int) == (cm : Int)) = true := by simp; omega
              have HQ : Hid (M.nxt i 2 = cm) := hq
              clear hq
              go_wp2_with fail
              go_round
              case rel =>
                refine ⟨2 + 1, by omega, by go_num, ?_⟩
                have := HQ.out
                rw [HCS2.out, show max cm (M.nxt i 2 + 1) = cm + 1 by omega]; go_num
              case measure => simp [intOf]
            · have hb : ((M.nxt i 2 : Int) == (cm : Int)) = false := by simp; omega
              have HQ : Hid (M.nxt i 2 < cm) := by unfold Hid; omega
              clear hq
              go_wp2_with fail
              go_round
              case rel =>
                refine ⟨2 + 1, by omega, by go_num, ?_⟩
                have := HQ.out
                rw [HCS2.out, show max cm (M.nxt i 2 + 1) = cm by omega]
              case measure => simp [intOf]
          · have ix := Try.idx3 (.int .i64 (M.nxt i 0)) (.int .i64 (M.nxt i 1)) (.int .i64 (M.nxt i 2)) (.int .i64 (M.nxt i 3)) (.int .i64 (M.nxt i 4)) (.int .i64 (M.nxt i 5)) (.int .i64 (M.nxt i 6)) (.int .i64 (M.nxt i 7))
            by_cases hq : M.nxt i 3 = cm
            · have hb : ((M.nxt i 3 : Int) == (cm : Int)) = true := by simp; omega
              have HQ : Hid (M.nxt i 3 = cm) := hq
              clear hq
              go_wp2_with fail
              go_round
              case rel =>
                refine ⟨3 + 1, by omega, by go_num, ?_⟩
                have := HQ.out
                rw [HCS2.out, show max cm (M.nxt i 3 + 1) = cm + 1 by omega]; go_num
              case measure => simp [intOf]
            · have hb : ((M.nxt i 3 : Int) == (cm : Int)) = false := by simp; omega
              have HQ : Hid (M.nxt i 3 < cm) := by unfold Hid; omega
              clear hq
              go_wp2_with fail
              go_round
              case rel =>
                refine ⟨3 + 1, by omega, by go_num, ?_⟩
                have := HQ.out
                rw [HCS2.out, show max cm (M.nxt i 3 + 1) = cm by omega]
              case measure => simp [intOf]
          · have ix := Try.idx4 (.int .i64 (M.nxt i 0)) (.int .i64 (M.nxt i 1)) (.int .i64 (M.nxt i 2)) (.int .i64 (M.nxt i 3)) (.int .i64 (M.nxt i 4)) (.int .i64 (M.nxt i 5)) (.int .i64 (M.nxt i 6)) (.int .i64 (M.nxt i 7))
            by_cases hq : M.nxt i 4 = cm
            · have hb : ((M.nxt i 4 : Int) == (cm : Int)) = true := by simp; omega
              have HQ : Hid (M.nxt i 4 = cm) := hq
              clear hq
              go_wp2_with fail
              go_round
              case rel =>
                refine ⟨4 + 1, by omega, by go_num, ?_⟩
                have := HQ.out
                rw [HCS2.out, show max cm (M.nxt i 4 + 1) = cm + 1 by omega]; go_num
              case measure => simp [intOf]
            · have hb : ((M.nxt i 4 : Int) == (cm : Int)) = false := by simp; omega
              have HQ : Hid (M.nxt i 4 < cm) := by unfold Hid; omega
              clear hq
              go_wp2_with fail
              go_round
              case rel =>
                refine ⟨4 + 1, by omega, by go_num, ?_⟩
                have := HQ.out
                rw [HCS2.out, show max cm (M.nxt i 4 + 1) = cm by omega]
              case measure => simp [intOf]
          · have ix := Try.idx5 (.int .i64 (M.nxt i 0)) (.int .i64 (M.nxt i 1)) (.int .i64 (M.nxt i 2)) (.int .i64 (M.nxt i 3)) (.int .i64 (M.nxt i 4)) (.int .i64 (M.nxt i 5)) (.int .i64 (M.nxt i 6)) (.int .i64 (M.nxt i 7))
            by_cases hq : M.nxt i 5 = cm
            · have hb : ((M.nxt i 5 : Int) == (cm : Int)) = true := by simp; omega
              have HQ : Hid (M.nxt i 5 = cm) := hq
              clear hq
              go_wp2_with fail
              go_round
              case rel =>
                refine ⟨5 + 1, by omega, by go_num, ?_⟩
                have := HQ.out
                rw [HCS2.out, show max cm (M.nxt i 5 + 1) = cm + 1 by omega]; go_num
              case measure => simp [intOf]
            · have hb : ((M.nxt i 5 : Int) == (cm : Int)) = false := by simp; omega
              have HQ : Hid (M.nxt i 5 < cm) := by unfold Hid; omega
              clear hq
              go_wp2_with fail
              go_round
              case rel =>
                refine ⟨5 + 1, by omega, by go_num, ?_⟩
                have := HQ.out
                rw [HCS2.out, show max cm (M.nxt i 5 + 1) = cm by omega]
              case measure => simp [intOf]
          · have ix := Try.idx6 (.int .i64 (M.nxt i 0)) (.int .i64 (M.nxt i 1)) (.int .i64 (M.nxt i 2)) (.int .i64 (M.nxt i 3)) (.int .i64 (M.nxt i 4)) (.int .i64 (M.nxt i 5)) (.int .i64 (M.nxt i 6)) (.int .i64 (M.nxt i 7))
            by_cases hq : M.nxt i 6 = cm
            · have hb : ((M.nxt i 6 : Int) == (cm : Int)) = true := by simp; omega
              have HQ : Hid (M.nxt i 6 = cm) := hq
              clear hq
              go_wp2_with fail
              go_round
              case rel =>
                refine ⟨6 + 1, by omega, by go_num, ?_⟩
                have := HQ.out
                rw [HCS2.out, show max cm (M.nxt i 6 + 1) = cm + 1 by omega]; go_num
              case measure => simp [intOf]
            · have hb : ((M.nxt i 6 : Int) == (cm : Int)) = false := by simp; omega
              have HQ : Hid (M.nxt i 6 < cm) := by unfold Hid; omega
              clear hq
              go_wp2_with fail
              go_round
              case rel =>
                refine ⟨6 + 1, by omega, by go_num, ?_⟩
                have := HQ.out
                rw [HCS2.out, show max cm (M.nxt i 6 + 1) = cm by omega]
              case measure => simp [intOf]
          · have ix := Try.idx7 (.int .i64 (M.nxt i 0)) (.int .i64 (M.nxt i 1)) (.int .i64 (M.nxt i 2)) (.int .i64 (M.nxt i 3)) (.int .i64 (M.nxt i 4)) (.int .i64 (M.nxt i 5)) (.int .i64 (M.nxt i 6)) (.int .i64 (M.nxt i 7))
            by_cases hq : M.nxt i 7 = cm
            · have hb : ((M.nxt i 7 : Int) == (cm : Int)) = true := by simp; omega
              have HQ : Hid (M.nxt i 7 = cm) := hq
              clear hq
              go_wp2_with fail
              go_round
              case rel =>
                refine ⟨7 + 1, by omega, by go_num, ?_⟩
                have := HQ.out
                rw [HCS2.out, show max cm (M.nxt i 7 + 1) = cm + 1 by omega]; go_num
              case measure => simp [intOf]
            · have hb : ((M.nxt i 7 : Int) == (cm : Int)) = false := by simp; omega
              have HQ : Hid (M.nxt i 7 < cm) := by unfold Hid; omega
              clear hq
              go_wp2_with fail
              go_round
              case rel =>
                refine ⟨7 + 1, by omega, by go_num, ?_⟩
                have := HQ.out
                rw [HCS2.out, show max cm (M.nxt i 7 + 1) = cm by omega]
              case measure => simp [intOf]
        · have he : c = 8 := by omega
          subst he
          rw [show 8 * i + 8 = 8 * (i + 1) by omega] at hc2 hcp2 ⊢
          obtain ⟨cm, HC⟩ : ∃ x, Hid (come M.nxt (8 * (i + 1)) = x) := ⟨_, rfl⟩
          rw [HC.out] at hc2 hcp2 ⊢
          go_wp2_with fail
          go_round
          case rel => exact ⟨i + 1, by omega, by go_num, by rw [HC.out]⟩
          case measure => simp [intOf]; omega
    · have he : i = M.n := by omega
      subst he
      rw [hN.all]
      have hb : ((M.n : Int) == (M.n : Int)) = true := by simp
      clear hcl hc1 hcp hcel
      go_wp2_with fail
      go_ret
      exact ⟨rfl, rfl⟩
end Go.Proofs.Ytpngikmcjkjdaab

namespace Go.Proofs.Ytpngikmcjkjdaab
open Go.RowKit
set_option linter.unusedVariables false
set_option maxRecDepth 20000 in
set_option maxHeartbeats 2000000 in
theorem add_ok (gw base : Nat) (va vn : Value) (k : Nat) (xa xn : List Value) (a : Bool) (r : Nat → Nat) (w : World) (hb : w.heap[gw]? = some (.cells #[va, vn] 125 (0, 0)))
    (h0 : w.ownsRow base 4 1 va k xa) (h1 : w.ownsRow base 113 8 vn k xn) (hlt : gw < base) (hbase : base ≤ w.heap.size) (hk : k ≤ 100000000) :
    Calls Try.prog 78 #[.pointer (some ⟨gw, 0, none⟩), .bool a, .agg (row8 r)] w fun e w' => e = .returned (.tuple #[]) ∧
      ∃ va' vn', w'.heap[gw]? = some (.cells #[va', vn'] 125 (0, 0)) ∧ w'.ownsRow base 4 1 va' (k + 1) (xa ++ [.bool a]) ∧ w'.ownsRow base 113 8 vn' (k + 1) (xn ++ (row8 r).toList) ∧
        Touch (fun b => b = gw ∨ va.ownBlock = some b ∨ vn.ownBlock = some b) w w' ∧ (∀ g, va'.ownBlock = some g → va.ownBlock = some g ∨ w.heap.size ≤ g) ∧ (∀ g, vn'.ownBlock = some g → vn.ownBlock = some g ∨ w.heap.size ≤ g) := by
  obtain ⟨i4, hi4, hz4, hz41, hz42⟩ := info_parts Try.info4
  obtain ⟨i8, hi8, hz8, hz81, hz82⟩ := info_parts Try.infoE
  have hgs := heap_lt hb
  obtain ⟨W, hW⟩ : ∃ W, W = w.alloc (.cells (row8 r) 113) := ⟨_, rfl⟩
  have hWs : w.heap.size + 1 ≤ W.heap.size := by rw [hW]; simp
  have bw : W.heap[gw]? = some (.cells #[va, vn] 125 (0, 0)) := by rw [hW]; exact heap_at_old hb
  have br : W.heap[w.heap.size]? = some (.cells (row8 r) 113 (0, 0)) := by rw [hW]; exact heap_at_new rfl
  have T0 : Touch (fun b => b = gw ∨ va.ownBlock = some b ∨ vn.ownBlock = some b) w W := by rw [hW]; exact (Touch.refl _ _).alloc _
  have o0 : W.ownsRow base 4 1 va k xa := by rw [hW]; exact h0.alloc _
  have o1 : W.ownsRow base 113 8 vn k xn := by rw [hW]; exact h1.alloc _
  obtain ⟨y0, y1, z0, z1⟩ := cell_two bw
  have HX : Hid (W = w.alloc (.cells (row8 r) 113)) := hW
  unfold row8 at hW
  unfold row8
  go_enter Try.func78, Try.ntmps78
  go_upto_region 1 with fail
  rw [← hW]
  have l0 := fun g e => h0.lt g e
  have l1 := fun g e => h1.lt g e
  clear hW HX hb h0 h1
  have hna := o0.alloc (.cells #[.bool a] 4)
  have hbo : base ≤ (W.alloc (.cells #[.bool a] 4)).heap.size := by simp; omega
  have HG : ∀ g cap w2, w2.ownsRow base 4 1 (.slice (some ⟨g, 0, none⟩) (k + 1) cap) (k + 1) (xa ++ [.bool a]) → (W.alloc (.cells #[.bool a] 4)).grownBy w2 va.ownBlock → (va.ownBlock = some g ∨ g = (W.alloc (.cells #[.bool a] 4)).heap.size) →
      w2.heap[gw]? = some (.cells #[va, vn] 125 (0, 0)) ∧ Hid (Touch (fun b => b = gw ∨ va.ownBlock = some b ∨ vn.ownBlock = some b) w w2 ∧ w2.ownsRow base 113 8 vn k xn ∧ w2.heap[w.heap.size]? = some (.cells (row8 r) 113 (0, 0)) ∧ W.heap.size ≤ w2.heap.size) := by
    intro g cap w2 ho hg hf
    have hsz := hg.size
    simp at hsz
    refine ⟨?_, (T0.alloc _).grown hg (fun k e => .inl (.inr (.inl e))), ?_, ?_, by omega⟩
    · rw [hg.block gw (by simp; omega) (fun e => by have := (l0 gw e.symm).1; omega)]; exact heap_at_old bw
    · refine (o1.alloc _).kept hg ?_
      cases hv : vn.ownBlock with
      | none => exact .inl rfl
      | some x => exact .inr (fun e => own_apart o1 o0 (by decide) x hv e.symm)
    · rw [hg.block w.heap.size (by simp; omega) (fun e => by have h2 := (l0 _ e.symm).2; omega)]; exact heap_at_old br
  clear bw br T0 o0 o1
  have hss : gw < W.heap.size := by omega
  go_upto_region 2 with (at_builtin; refine wpList_append_fresh _ rfl _ _ 27 rfl base 4 i4 (.bool false) 1 1 Try.underlying27 hi4 hz4 hz41 hz42 rfl (by decide) _ k xa rfl hna ⟨W.heap.size, 0, none⟩ 1 1 [.bool a] rfl rfl (cell_one_new _ _ _) (by intro u hu; simp at hu; subst hu; rfl) (by decide) (by unfold maxLen; omega) (by omega) hbo ?_; intro g cap w2 hown hgr hfr; obtain ⟨f0, F⟩ := HG g cap w2 hown hgr hfr; obtain ⟨f3, f4, f5, f6⟩ := cell_two f0)
  obtain ⟨F1, F2, F3, F4⟩ := F.out
  obtain ⟨W5, hW5⟩ : ∃ W5, W5 = w2.setCell ⟨gw, 0, none⟩ (.slice (some ⟨g, 0, none⟩) (k + 1) cap) := ⟨_, rfl⟩
  have hW5s : w2.heap.size ≤ W5.heap.size := by rw [hW5]; simp
  have b5 : W5.heap[gw]? = some (.cells #[.slice (some ⟨g, 0, none⟩) (k + 1) cap, vn] 125 (0, 0)) := by rw [hW5]; exact two_set0 f0
  have r5 : W5.heap[w.heap.size]? = some (.cells (row8 r) 113 (0, 0)) := by rw [hW5]; exact heap_set_other F3 (by simp; omega)
  have T5 : Touch (fun b => b = gw ∨ va.ownBlock = some b ∨ vn.ownBlock = some b) w W5 := by rw [hW5]; exact F1.set _ _ (.inl (.inl rfl))
  have o05 : W5.ownsRow base 4 1 (.slice (some ⟨g, 0, none⟩) (k + 1) cap) (k + 1) (xa ++ [.bool a]) := by rw [hW5]; exact ownsRow_setCell_below hown (by simp; omega) _
  have o15 : W5.ownsRow base 113 8 vn k xn := by rw [hW5]; exact ownsRow_setCell_below F2 (by simp; omega) _
  have fa : va.ownBlock = some g ∨ w.heap.size ≤ g := by
    rcases hfr with h | h
    · exact .inl h
    · right; rw [h]; simp; omega
  rw [← hW5]
  clear hW5 f0 f3 f4 f5 f6 F F1 F2 F3 HG hgr hown hfr hna hbo y0 y1 z0 z1
  obtain ⟨y0, y1, z0, z1⟩ := cell_two b5
  have c0 := cell_of_row W5 w.heap.size 0 (row8 r) 113 (0, 0) r5
  have c1 := cell_of_row W5 w.heap.size 1 (row8 r) 113 (0, 0) r5
  have c2 := cell_of_row W5 w.heap.size 2 (row8 r) 113 (0, 0) r5
  have c3 := cell_of_row W5 w.heap.size 3 (row8 r) 113 (0, 0) r5
  have c4 := cell_of_row W5 w.heap.size 4 (row8 r) 113 (0, 0) r5
  have c5 := cell_of_row W5 w.heap.size 5 (row8 r) 113 (0, 0) r5
  have c6 := cell_of_row W5 w.heap.size 6 (row8 r) 113 (0, 0) r5
  have c7 := cell_of_row W5 w.heap.size 7 (row8 r) 113 (0, 0) r5
  simp [row8] at c0 c1 c2 c3 c4 c5 c6 c7
  have hna := o15.alloc (.cells (row8 r) 113)
  have hbo : base ≤ (W5.alloc (.cells (row8 r) 113)).heap.size := by simp; omega
  have hss5 : gw < W5.heap.size := by omega
  have HG : ∀ g' cap' w6, w6.ownsRow base 113 8 (.slice (some ⟨g', 0, none⟩) (k + 1) cap') (k + 1) (xn ++ (row8 r).toList) → (W5.alloc (.cells (row8 r) 113)).grownBy w6 vn.ownBlock → (vn.ownBlock = some g' ∨ g' = (W5.alloc (.cells (row8 r) 113)).heap.size) →
      w6.heap[gw]? = some (.cells #[.slice (some ⟨g, 0, none⟩) (k + 1) cap, vn] 125 (0, 0)) ∧ Hid (Touch (fun b => b = gw ∨ va.ownBlock = some b ∨ vn.ownBlock = some b) w w6 ∧ w6.ownsRow base 4 1 (.slice (some ⟨g, 0, none⟩) (k + 1) cap) (k + 1) (xa ++ [.bool a])) := by
    intro g' cap' w6 ho hg hf
    have hsz := hg.size
    simp at hsz
    refine ⟨?_, (T5.alloc _).grown hg (fun k e => .inl (.inr (.inr e))), ?_⟩
    · rw [hg.block gw (by simp; omega) (fun e => by have := (l1 gw e.symm).1; omega)]; exact heap_at_old b5
    · refine (o05.alloc _).kept hg ?_
      by_cases hv : vn.ownBlock = some g
      · exact absurd (own_apart o15 o05 (by decide) g hv rfl) id
      · exact .inr (fun e => hv e.symm)
  clear b5 r5 T5 o05 o15
  unfold row8 at hna hbo HG
  have HGG : Hid _ := HG
  clear HG
  go_region_law
    ((refine step_append_lies _ (by rfl) _ _ _ (by rfl) base 113 i8 (.agg #[.int .i64 0, .int .i64 0, .int .i64 0, .int .i64 0, .int .i64 0, .int .i64 0, .int .i64 0, .int .i64 0]) 8 64 Try.underlying123 hi8 hz8 hz81 hz82 rfl (by decide) vn k xn (by rfl) hna ⟨W5.heap.size, 0, none⟩ 1 1 [.int .i64 ((r 0 : Nat) : Int), .int .i64 ((r 1 : Nat) : Int), .int .i64 ((r 2 : Nat) : Int), .int .i64 ((r 3 : Nat) : Int), .int .i64 ((r 4 : Nat) : Int), .int .i64 ((r 5 : Nat) : Int), .int .i64 ((r 6 : Nat) : Int), .int .i64 ((r 7 : Nat) : Int)] (by rfl) (by rfl) (cells_new _ _ _) (by intro u hu; simp at hu; rcases hu with rfl | rfl | rfl | rfl | rfl | rfl | rfl | rfl <;> rfl) (by decide) (by unfold maxLen; omega) (by omega) (by simp; omega) (W5.heap.size + 1) (by simp) ?_; intro g' cap' w6 hown' hgr' hfr' hlt2; obtain ⟨f0, F⟩ := HGG.out g' cap' w6 hown' ⟨hgr'.os, hgr'.tape, hgr'.output, hgr'.size, hgr'.block⟩ (by simpa using hfr'); obtain ⟨f3, f4, f5, f6⟩ := cell_two f0; have HFR : Hid _ := hfr'; clear hfr'))
  all_goals go_wp2_with fail
  all_goals
    obtain ⟨F1, F2⟩ := F.out
    go_end0
    refine ⟨rfl, .slice (some ⟨g, 0, none⟩) (k + 1) cap, .slice (some ⟨g', 0, none⟩) (k + 1) cap', two_set1 f0, ownsRow_setCell_below F2 (by simp; omega) _, ownsRow_setCell_below hown' (by simp; omega) _, F1.set _ _ (.inl (.inl rfl)), ?_, ?_⟩
    · intro x hx
      simp only [Value.ownBlock, Option.some.injEq] at hx; subst hx; exact fa
    · intro x hx
      simp only [Value.ownBlock, Option.some.injEq] at hx; subst hx
      rcases HFR.out with h | h
      · exact .inl h
      · right; rw [h]; omega
end Go.Proofs.Ytpngikmcjkjdaab

namespace Go.Proofs.Ytpngikmcjkjdaab
open Go.RowKit
set_option linter.unusedVariables false
def zs (n : Nat) : Array Value := Array.replicate n (.int .i64 0)
def pcells (ps : List Nat) : List Value := ps.flatMap fun q => [.int .i64 ((q / 40 : Nat) : Int), .int .i64 ((q % 40 : Nat) : Int)]
def metv (ps : List Nat) (q : Nat) : Nat := if q ∈ ps then ps.idxOf q + 1 else 0
theorem metv_new (ps : List Nat) (q r : Nat) (hq : q ∉ ps) : metv (ps ++ [q]) r = if r = q then ps.length + 1 else metv ps r := by
  unfold metv
  by_cases e : r = q
  · subst e; simp [List.idxOf_append, hq]
  · by_cases h : r ∈ ps
    · simp [h, e, List.idxOf_append]
    · simp [h, e]
structure PairMem (W : World) (B : Nat) (w : World) (ps : List Nat) (vp va vn : Value) (k k' : Nat) (xa xn : List Value) : Prop where
  blw : Below (B + 1 + 1) W w
  blk : w.heap[B + 1 + 1]? = some (.cells #[va, vn] 125 (0, 0))
  met : w.rowIs (B + 1 + 1 + 1) 129 1600 (fun q => .int .i64 (metv ps q : Nat))
  own0 : w.ownsRow (B + 1 + 1 + 1 + 1) 4 1 va k xa
  own1 : w.ownsRow (B + 1 + 1 + 1 + 1) 113 8 vn k' xn
  own2 : w.ownsRow (B + 1 + 1 + 1 + 1) 131 2 vp ps.length (pcells ps)
structure RoundMem (W : World) (B H : Nat) (w : World) (ps : List Nat) (vp va vn : Value) (k : Nat) (xa xn : List Value) (i j : Nat) (r : Nat → Nat) : Prop where
  mem : PairMem W B w ps vp va vn k k xa xn
  here : w.heap[H]? = some (.cells #[.int .i64 (i : Int), .int .i64 (j : Int)] 131 (0, 0))
  rw : w.rowIs (H + 1) 113 8 (fun c => .int .i64 (r c : Nat))
  lo : B + 1 + 1 + 1 + 1 ≤ H
  dp : ∀ g, vp.ownBlock = some g → g ≠ H ∧ g ≠ H + 1
  da : ∀ g, va.ownBlock = some g → g < H
  dn : ∀ g, vn.ownBlock = some g → g < H
section
variable {W : World} {B H : Nat} {w w2 : World} {ps : List Nat} {vp va vn : Value} {k : Nat} {xa xn : List Value} {i j : Nat} {r : Nat → Nat}
theorem PairMem.alloc {k' : Nat} (h : PairMem W B w ps vp va vn k k' xa xn) (o : Obj) : PairMem W B (w.alloc o) ps vp va vn k k' xa xn where
  blw := h.blw.alloc (by have := heap_lt h.blk; omega) o
  blk := heap_at_old h.blk
  met := h.met.alloc o
  own0 := h.own0.alloc o
  own1 := h.own1.alloc o
  own2 := h.own2.alloc o
theorem RoundMem.alloc (h : RoundMem W B H w ps vp va vn k xa xn i j r) (o : Obj) : RoundMem W B H (w.alloc o) ps vp va vn k xa xn i j r :=
  ⟨h.mem.alloc o, heap_at_old h.here, h.rw.alloc o, h.lo, h.dp, h.da, h.dn⟩
theorem RoundMem.grown (h : RoundMem W B H w ps vp va vn k xa xn i j r) {q g cap : Nat} (hown : w2.ownsRow (B + 1 + 1 + 1 + 1) 131 2 (.slice (some ⟨g, 0, none⟩) (ps.length + 1) cap) (ps.length + 1) (pcells (ps ++ [q])))
    (hg : w.grownBy w2 vp.ownBlock) (hf : vp.ownBlock = some g ∨ g = w.heap.size) :
    Below (B + 1 + 1) W w2 ∧ w2.heap[B + 1 + 1]? = some (.cells #[va, vn] 125 (0, 0)) ∧ w2.rowIs (B + 1 + 1 + 1) 129 1600 (fun q => .int .i64 (metv ps q : Nat)) ∧
      w2.ownsRow (B + 1 + 1 + 1 + 1) 4 1 va k xa ∧ w2.ownsRow (B + 1 + 1 + 1 + 1) 113 8 vn k xn ∧
      w2.heap[H]? = some (.cells #[.int .i64 (i : Int), .int .i64 (j : Int)] 131 (0, 0)) ∧ w2.rowIs (H + 1) 113 8 (fun c => .int .i64 (r c : Nat)) ∧ (g ≠ H ∧ g ≠ H + 1) := by
  have hm := h.mem
  have hsz := heap_lt hm.blk
  have hlt := fun x e => hm.own2.lt x e
  have hH := heap_lt h.here
  have hH1 := h.rw.lt
  refine ⟨hm.blw.grown hg (by omega) (fun x e => by have := (hlt x e).1; omega), ?_, rowIs_grown hm.met hg (fun e => by have := (hlt _ e).1; omega), ?_, ?_, ?_, rowIs_grown h.rw hg (fun e => (h.dp _ e).2 rfl), ?_⟩
  · rw [hg.block _ hsz (fun e => by have := (hlt _ e.symm).1; omega)]; exact hm.blk
  · refine hm.own0.kept hg ?_
    cases hv : va.ownBlock with
    | none => exact .inl rfl
    | some x => exact .inr (fun e => own_apart hm.own0 hm.own2 (by decide) x hv e.symm)
  · refine hm.own1.kept hg ?_
    cases hv : vn.ownBlock with
    | none => exact .inl rfl
    | some x => exact .inr (fun e => own_apart hm.own1 hm.own2 (by decide) x hv e.symm)
  · rw [hg.block _ hH (fun e => (h.dp _ e.symm).1 rfl)]; exact h.here
  · rcases hf with hf | rfl
    · exact h.dp g hf
    · omega
theorem RoundMem.new (h : RoundMem W B H w ps vp va vn k xa xn i j r) {q g cap c : Nat} (hq : q ∉ ps) (hown : w2.ownsRow (B + 1 + 1 + 1 + 1) 131 2 (.slice (some ⟨g, 0, none⟩) (ps.length + 1) cap) (ps.length + 1) (pcells (ps ++ [q])))
    (hg : w.grownBy w2 vp.ownBlock) (hf : vp.ownBlock = some g ∨ g = w.heap.size) :
    RoundMem W B H ((w2.setCell ⟨B + 1 + 1 + 1, q, none⟩ (.int .i64 ((ps.length : Int) + 1))).setCell ⟨H + 1, c, none⟩ (.int .i64 (ps.length : Int))) (ps ++ [q]) (.slice (some ⟨g, 0, none⟩) (ps.length + 1) cap) va vn k xa xn i j (fun x => if x = c then ps.length else r x) := by
  obtain ⟨g1, g2, g3, g4, g5, g6, g7, g8⟩ := h.grown hown hg hf
  have hlo := h.lo
  refine ⟨⟨(g1.setCell (p := ⟨B + 1 + 1 + 1, q, none⟩) (by simp) _).setCell (p := ⟨H + 1, c, none⟩) (by simp; omega) _, heap_set_other (heap_set_other g2 (by simp)) (by simp; omega), ?_, ?_, ?_, ?_⟩,
    heap_set_other (heap_set_other g6 (by simp; omega)) (by simp), ?_, h.lo, ?_, h.da, h.dn⟩
  · refine ((g3.set q _).setOther (by simp; omega) _).congr (fun x _ => ?_)
    rw [metv_new ps q x hq]
    by_cases e : x = q
    · simp [e]
    · simp [e]
  · exact ownsRow_set (ownsRow_set g4 _ _ (fun x hx => by have := (g4.lt x hx).1; simp; omega)) _ _ (fun x hx => by have := h.da x hx; simp; omega)
  · exact ownsRow_set (ownsRow_set g5 _ _ (fun x hx => by have := (g5.lt x hx).1; simp; omega)) _ _ (fun x hx => by have := h.dn x hx; simp; omega)
  · simp only [List.length_append, List.length_singleton]
    exact ownsRow_set (ownsRow_set hown _ _ (fun x hx => by have := (hown.lt x hx).1; simp; omega)) _ _ (fun x hx => by simp only [Value.ownBlock, Option.some.injEq] at hx; subst hx; simpa using g8.2)
  · refine ((g7.setOther (a := ⟨B + 1 + 1 + 1, q, none⟩) (by simp; omega) _).set c _).congr (fun x _ => ?_)
    by_cases e : x = c
    · simp [e]
    · simp [e]
  · intro x hx
    simp only [Value.ownBlock, Option.some.injEq] at hx; subst hx; exact g8
theorem RoundMem.old (h : RoundMem W B H w ps vp va vn k xa xn i j r) {c v : Nat} :
    RoundMem W B H (w.setCell ⟨H + 1, c, none⟩ (.int .i64 (v : Int))) ps vp va vn k xa xn i j (fun x => if x = c then v else r x) := by
  have hm := h.mem
  have hlo := h.lo
  refine ⟨⟨hm.blw.setCell (p := ⟨H + 1, c, none⟩) (by simp; omega) _, heap_set_other hm.blk (by simp; omega), hm.met.setOther (by simp; omega) _, ?_, ?_, ?_⟩, heap_set_other h.here (by simp), ?_, h.lo, h.dp, h.da, h.dn⟩
  · exact ownsRow_set hm.own0 _ _ (fun x hx => by have := h.da x hx; simp; omega)
  · exact ownsRow_set hm.own1 _ _ (fun x hx => by have := h.dn x hx; simp; omega)
  · exact ownsRow_set hm.own2 _ _ (fun x hx => by have := (h.dp x hx).2; simpa using this)
  · refine (h.rw.set c _).congr (fun x _ => ?_)
    by_cases e : x = c
    · simp [e]
    · simp [e]
theorem RoundMem.drewN (h : RoundMem W B H w ps vp va vn k xa xn i j r) (q : Nat) : RoundMem W B H (w.drewN q) ps vp va vn k xa xn i j r :=
  ⟨⟨below_drewN h.mem.blw q, h.mem.blk, h.mem.met, h.mem.own0, h.mem.own1, h.mem.own2⟩, h.here, h.rw, h.lo, h.dp, h.da, h.dn⟩
theorem RoundMem.add (h : RoundMem W B H w ps vp va vn k xa xn i j r) {va' vn' : Value} {ya yn : List Value} (hb : w2.heap[B + 1 + 1]? = some (.cells #[va', vn'] 125 (0, 0)))
    (h0 : w2.ownsRow (B + 1 + 1 + 1 + 1) 4 1 va' (k + 1) ya) (h1 : w2.ownsRow (B + 1 + 1 + 1 + 1) 113 8 vn' (k + 1) yn)
    (ht : Touch (fun b => b = B + 1 + 1 ∨ va.ownBlock = some b ∨ vn.ownBlock = some b) w w2) : PairMem W B w2 ps vp va' vn' (k + 1) (k + 1) ya yn := by
  have hm := h.mem
  have hsz := heap_lt hm.blk
  refine ⟨ht.below hm.blw (by omega) ?_, hb, ht.row hm.met ?_, h0, h1, ht.own hm.own2 ?_⟩
  · rintro x (rfl | e | e)
    · omega
    · have := (hm.own0.lt _ e).1; omega
    · have := (hm.own1.lt _ e).1; omega
  · rintro (e | e | e)
    · omega
    · have := (hm.own0.lt _ e).1; omega
    · have := (hm.own1.lt _ e).1; omega
  · rintro g hg (rfl | e | e)
    · have := (hm.own2.lt _ hg).1; omega
    · exact own_apart hm.own2 hm.own0 (by decide) g hg e
    · exact own_apart hm.own2 hm.own1 (by decide) g hg e
theorem RoundMem.rcongr (h : RoundMem W B H w ps vp va vn k xa xn i j r) {r' : Nat → Nat} (e : ∀ x, x < 8 → r x = r' x) : RoundMem W B H w ps vp va vn k xa xn i j r' :=
  ⟨h.mem, h.here, h.rw.congr (fun x hx => by rw [e x hx]), h.lo, h.dp, h.da, h.dn⟩
end
end Go.Proofs.Ytpngikmcjkjdaab

namespace Go.Proofs.Ytpngikmcjkjdaab
open Go.RowKit
set_option linter.unusedVariables false
def rcells (X : Nat → Nat → Nat) : Nat → List Value
  | 0 => []
  | k + 1 => rcells X k ++ (List.range 8).map fun c => .int .i64 ((X k c : Nat) : Int)
def acells (A : Nat → Bool) : Nat → List Value
  | 0 => []
  | k + 1 => acells A k ++ [.bool (A k)]
theorem rcells_congr {X Y : Nat → Nat → Nat} {k : Nat} (h : ∀ i c, i < k → c < 8 → X i c = Y i c) : rcells X k = rcells Y k := by
  induction k with
  | zero => rfl
  | succ k ih =>
    simp only [rcells]
    rw [ih (fun i c hi hc => h i c (by omega) hc)]
    congr 1
    apply List.map_congr_left
    intro c hc
    rw [h k c (by omega) (by simpa using hc)]
theorem pn_new {good : Nat → Prop} {S : Nat → Nat → Nat} {ps : List Nat} {p q : Nat} (h : PRel good S ps p) (i c : Nat) (hc : c < 8) (hr : 8 * i + c < p) : pn S (ps ++ [q]) i c = pn S ps i c := by
  have hc := h.clo _ hr
  rw [show (8 * i + c) / 8 = i by omega, show (8 * i + c) % 8 = c by omega] at hc
  simp only [pn]
  rw [getD_app _ _ _ hc.1, List.idxOf_append, if_pos hc.2]
theorem acells_len (A : Nat → Bool) (k : Nat) : (acells A k).length = k := by
  induction k with
  | zero => rfl
  | succ k ih => simp [acells, ih]
theorem rcells_len (X : Nat → Nat → Nat) (k : Nat) : (rcells X k).length = k * 8 := by
  induction k with
  | zero => rfl
  | succ k ih => simp only [rcells, List.length_append, ih, List.length_map, List.length_range]; omega
theorem acells_at (A : Nat → Bool) (k i : Nat) (hi : i < k) : (acells A k)[i]? = some (.bool (A i)) := by
  induction k with
  | zero => omega
  | succ k ih =>
    simp only [acells]
    by_cases e : i = k
    · subst e; rw [List.getElem?_append_right (by rw [acells_len]; exact Nat.le_refl _), acells_len]; simp
    · rw [List.getElem?_append_left (by rw [acells_len]; omega)]; exact ih (by omega)
theorem rcells_at (X : Nat → Nat → Nat) (k i c : Nat) (hi : i < k) (hc : c < 8) : (rcells X k)[i * 8 + c]? = some (.int .i64 ((X i c : Nat) : Int)) := by
  induction k with
  | zero => omega
  | succ k ih =>
    simp only [rcells]
    by_cases e : i = k
    · subst e
      rw [List.getElem?_append_right (by rw [rcells_len]; omega), rcells_len, show i * 8 + c - i * 8 = c by omega]
      simp [hc]
    · rw [List.getElem?_append_left (by rw [rcells_len]; omega)]; exact ih (by omega)
end Go.Proofs.Ytpngikmcjkjdaab

namespace Go.Proofs.Ytpngikmcjkjdaab
open Go.RowKit
set_option linter.unusedVariables false
set_option maxRecDepth 20000 in
set_option maxHeartbeats 2000000 in
theorem wleast_ok (gw ga ca gn cn : Nat) (M : Tab) (L : List Nat → Bool) (bu : Nat) (w : World) (hM : WideAt w gw ga ca gn cn M) (hN : Numbered M) (hn : M.n ≤ 100000000) (hL : ∀ x, Notes x → M.accepts x = L x) (hb0 : 1 ≤ bu) (hb1 : bu ≤ 40) :
    Calls Try.prog 54 #[.pointer (some ⟨gw, 0, none⟩), .int .i64 bu] w (LeastPost L bu M.n w) := by
  obtain ⟨W, hW⟩ : ∃ W, W = w.alloc (.cells #[.slice none 0 0, .slice none 0 0] 30) := ⟨_, rfl⟩
  have BW : Below w.heap.size w W := by rw [hW]; exact (Below.refl _ _).alloc (Nat.le_refl _) _
  have hWs : w.heap.size < W.heap.size := by rw [hW]; simp
  have b2 : W.heap[w.heap.size]? = some (.cells #[.slice none 0 0, .slice none 0 0] 30 (0, 0)) := by rw [hW]; exact heap_at_new (by simp)
  have hM0 := hM.below BW
  have xp := hM.p1
  have hgw := lt_of_cell hM.p1
  have HO := inOrder_ok gn cn M W hM0.cel hN hn
  have HC := shrink_ok gw ga ca gn cn M bu W hM0 hb0 hb1 hN.pos hn hN.nx
  have HN : Hid (Numbered M) := hN
  have HL : Hid (∀ x, Notes x → M.accepts x = L x) := hL
  clear hN hL
  go_enter Try.func54, Try.ntmps54
  go_wp2_with fail
  rw [← hW]
  clear hW
  refine HO.mono ?_
  rintro e w1 ⟨rfl, hw1⟩
  obtain rfl : W = w1 := hw1.symm
  clear HO hw1
  go_wp2_with fail
  refine HC.mono ?_
  clear HC xp hgw
  rintro e w5 ⟨hB5, hcase⟩
  have a2 := (hB5.block _ (by omega)).trans b2
  have BW5 : Below w.heap.size w w5 := BW.trans (hB5.mono (by omega))
  have hs5 := hB5.size
  clear b2 hB5 BW
  obtain ⟨q0, q1, p0, p1⟩ := cell_two a2
  have hsa : w.heap.size < w5.heap.size := by omega
  rcases hcase with ⟨f, hs, V', hst, hle, rfl, hT, hF, hFr⟩ | ⟨rfl, hs, hgt, hlt, hap⟩
  · have HS : Hid _ := hst
    clear hst
    go_wp2_with fail
    obtain ⟨r1, r2⟩ := res_alloc (u := .slice (some ⟨V'.ba, V'.oa, none⟩) hs.length V'.ca) (v := .slice (some ⟨V'.bn, V'.on, none⟩) hs.length V'.cn) a2 (.cells #[.slice (some ⟨V'.ba, V'.oa, none⟩) hs.length V'.ca, .slice (some ⟨V'.bn, V'.on, none⟩) hs.length V'.cn] 30)
    refine bodyPost_ret (v := .tuple #[.agg #[.slice (some ⟨V'.ba, V'.oa, none⟩) hs.length V'.ca, .slice (some ⟨V'.bn, V'.on, none⟩) hs.length V'.cn], .int .i64 0]) (by simp [results, Try.results54, go_sem, r1, r2]) rfl ?_
    have hBe := (below_res BW5 (b := w.heap.size) (by omega) (.slice (some ⟨V'.ba, V'.oa, none⟩) hs.length V'.ca) (.slice (some ⟨V'.bn, V'.on, none⟩) hs.length V'.cn)).alloc (by simp; omega) (.cells #[.slice (some ⟨V'.ba, V'.oa, none⟩) hs.length V'.ca, .slice (some ⟨V'.bn, V'.on, none⟩) hs.length V'.cn] 30)
    have hTe := (hT.res hF (b := w.heap.size) (by omega) (.slice (some ⟨V'.ba, V'.oa, none⟩) hs.length V'.ca) (.slice (some ⟨V'.bn, V'.on, none⟩) hs.length V'.cn)).below ((Below.refl _ _).alloc (Nat.le_refl _) (.cells #[.slice (some ⟨V'.ba, V'.oa, none⟩) hs.length V'.ca, .slice (some ⟨V'.bn, V'.on, none⟩) hs.length V'.cn] 30))
    exact ⟨hBe, .inl ⟨_, V', merged_least HN.out HS.out HL.out, hle, rfl, hTe, hF.mono (by omega), ((hFr.set _ _ _).set _ _ _).below ((Below.refl _ _).alloc (Nat.le_refl _) _)⟩⟩
  · go_wp2_with fail
    obtain ⟨r1, r2⟩ := res_alloc (u := .slice none 0 0) (v := .slice none 0 0) a2 (.cells #[.slice none 0 0, .slice none 0 0] 30)
    refine bodyPost_ret (v := .tuple #[.agg #[.slice none 0 0, .slice none 0 0], .int .i64 5]) (by simp [results, Try.results54, go_sem, r1, r2]) rfl ?_
    have hBe := (below_res BW5 (b := w.heap.size) (by omega) (.slice none 0 0) (.slice none 0 0)).alloc (by simp; omega) (.cells #[.slice none 0 0, .slice none 0 0] 30)
    have hl := heads_le hs hlt hap
    exact ⟨hBe, .inr ⟨rfl, by omega, fun R hRl => by have := apart_le hRl HN.out HL.out hs hlt hap; omega⟩⟩
end Go.Proofs.Ytpngikmcjkjdaab

namespace Go.Proofs.Ytpngikmcjkjdaab
open Go.RowKit
set_option linter.unusedVariables false
theorem LeastPost.wrap {L : List Nat → Bool} {budget bound : Nat} {w w0 w1 : World} {e : Ending} (h : LeastPost L budget bound w0 e w1) (h0 : Below w.heap.size w w0) (hs : w.heap.size ≤ w0.heap.size) :
    ∃ a0 n0 c0 a1 n1 c1 er, e = .returned (.tuple #[.agg #[.slice a0 n0 c0, .slice a1 n1 c1], .int .i64 er]) ∧ Below w.heap.size w w1 ∧ Below w0.heap.size w0 w1 ∧
      ∀ b, w.heap.size ≤ b → b < w0.heap.size → LeastPost L budget bound w e ((w1.setCell ⟨b, 0, none⟩ (.slice a0 n0 c0)).setCell ⟨b, 1, none⟩ (.slice a1 n1 c1)) := by
  obtain ⟨hb, hc⟩ := h
  have hB := h0.trans (hb.mono hs)
  rcases hc with ⟨R, V, hR, hn, rfl, hT, hF, hFr⟩ | ⟨rfl, hlt, hR⟩
  · exact ⟨_, _, _, _, _, _, _, rfl, hB, hb, fun b h1 h2 => ⟨below_res hB h1 _ _, .inl ⟨R, V, hR, hn, rfl, hT.res hF h2 _ _, hF.mono hs, (hFr.set _ _ _).set _ _ _⟩⟩⟩
  · exact ⟨_, _, _, _, _, _, _, rfl, hB, hb, fun b h1 h2 => ⟨below_res hB h1 _ _, .inr ⟨rfl, hlt, hR⟩⟩⟩
theorem LeastPost.congr {L L' : List Nat → Bool} {budget bound : Nat} {w w' : World} {e : Ending} (h : LeastPost L budget bound w e w') (hL : ∀ x, Notes x → L x = L' x) : LeastPost L' budget bound w e w' := by
  obtain ⟨hb, hc⟩ := h
  refine ⟨hb, ?_⟩
  rcases hc with ⟨R, V, hR, hn, he, hT, hF, hFr⟩ | ⟨he, hlt, hR⟩
  · exact .inl ⟨R, V, ⟨hR.num, hR.apart, fun x hx => by rw [hR.lang x hx, hL x hx]⟩, hn, he, hT, hF, hFr⟩
  · exact .inr ⟨he, hlt, fun R' hR' => hR R' ⟨hR'.num, hR'.apart, fun x hx => by rw [hR'.lang x hx, hL x hx]⟩⟩
end Go.Proofs.Ytpngikmcjkjdaab
