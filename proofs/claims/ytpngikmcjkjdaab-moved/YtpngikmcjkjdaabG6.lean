import Derived.Deep.AppendLies
import Derived.Deep.RegionLaw
import Derived.Deep.Upon
import Derived.Test.YtpngikmcjkjdaabG1
import Derived.Test.YtpngikmcjkjdaabG3
import Derived.Test.YtpngikmcjkjdaabG5
set_option linter.unusedVariables false
set_option linter.unusedSimpArgs false
namespace Go.Proofs.Ytpngikmcjkjdaab
open Go.RowKit
set_option linter.unusedVariables false
set_option linter.unusedSimpArgs false
set_option maxRecDepth 20000 in
set_option maxHeartbeats 2000000 in
theorem copy_ok (V : Lay) (M : Tab) (w : World) (hM : M.Ok) (hV : TabAt w V M) :
    Calls Try.prog 66 #[.agg #[.slice (some ⟨V.ba, V.oa, none⟩) M.n V.ca, .slice (some ⟨V.bn, V.on, none⟩) M.n V.cn]] w
      fun e w' => ∃ U : Lay, e = .returned (.agg #[.slice (some ⟨U.ba, U.oa, none⟩) M.n U.ca, .slice (some ⟨U.bn, U.on, none⟩) M.n U.cn]) ∧ TabAt w' U M ∧ U.From w.heap.size M.n ∧ Below w.heap.size w w' := by
  obtain ⟨i4, hi4, hz4, hz41, hz42⟩ := info_parts Try.info4
  obtain ⟨i3, hi3, hz3, hz31, hz32⟩ := info_parts Try.info3
  obtain ⟨iR, hiR, hzR, hzR1, hzR2⟩ := info_parts Try.infoR
  have l1 := hM.lo
  have l2 := hM.hi
  obtain ⟨W, hW⟩ : ∃ W, W = ((w.alloc (.cells #[.slice (some ⟨V.ba, V.oa, none⟩) M.n V.ca, .slice (some ⟨V.bn, V.on, none⟩) M.n V.cn] 30)).alloc (.cells #[.slice none 0 0, .slice none 0 0] 30)).alloc (.cells #[.slice none 0 0, .slice none 0 0] 30) := ⟨_, rfl⟩
  have BW : Below w.heap.size w W := by
    rw [hW]; exact (((Below.refl _ _).alloc (Nat.le_refl _) _).alloc (by simp) _).alloc (by simp; omega) _
  have hWs : W.heap.size = w.heap.size + 1 + 1 + 1 := by rw [hW]; simp
  have b0 : W.heap[w.heap.size]? = some (.cells #[.slice (some ⟨V.ba, V.oa, none⟩) M.n V.ca, .slice (some ⟨V.bn, V.on, none⟩) M.n V.cn] 30 (0, 0)) := by rw [hW]; exact heap_at_old (heap_at_old (heap_at_new (by simp)))
  have b1 : W.heap[w.heap.size + 1]? = some (.cells #[.slice none 0 0, .slice none 0 0] 30 (0, 0)) := by rw [hW]; exact heap_at_old (heap_at_new (by simp))
  have b2 : W.heap[w.heap.size + 1 + 1]? = some (.cells #[.slice none 0 0, .slice none 0 0] 30 (0, 0)) := by rw [hW]; exact heap_at_new (by simp)
  obtain ⟨y0, y1, _, _⟩ := cell_two b0
  go_enter Try.func66, Try.ntmps66
  go_wp2_with fail
  rw [← hW]
  clear hW
  go_loopw [14] (fun i' wr => ∃ i : Nat, ∃ va, i ≤ M.n ∧ i' = .int .i64 (i : Int) ∧ BuildMem W (w.heap.size + 1 + 1) wr va (.slice none 0 0) i 0 M.acc (fun _ => 0) (fun _ => 0) M.nxt) (fun i' _ => M.n - (intOf i').toNat)
  case atStart => exact ⟨0, _, by omega, rfl, BuildMem.start (Below.refl _ _) b2⟩
  case round =>
    obtain ⟨i, va, hi, rfl, hB⟩ := hrel
    have hbw : Below w.heap.size w wr := BW.trans (hB.two.blw.mono (by omega))
    obtain ⟨x0, x1, f0, f1⟩ := cell_two hB.two.blk
    have hsz := heap_lt hB.two.blk
    by_cases hlt : i < M.n
    · have z0 := (hV.below hbw).acc i hlt
      obtain ⟨bb, HBB⟩ : ∃ x, Hid (M.acc i = x) := ⟨_, rfl⟩
      rw [HBB.out] at z0
      have q1 : (i : Int) < (M.n : Int) := by omega
      have HBa : Hid (BuildMem W (w.heap.size + 1 + 1) (wr.alloc (.cells #[.bool bb] 4)) va (.slice none 0 0) i 0 M.acc (fun _ => 0) (fun _ => 0) M.nxt) := hB.below ((Below.refl _ _).alloc (Nat.le_refl _) _)
      have hna := HBa.out.two.own0
      obtain ⟨oa, oc, hva, _⟩ := ownsRow_shape hna
      subst hva
      have HACC : ∀ g cap' w2, w2.ownsRow (w.heap.size + 1 + 1 + 1) 4 1 (.slice (some ⟨g, 0, none⟩) (i + 1) cap') (i + 1) (acells M.acc i ++ [.bool bb]) → (wr.alloc (.cells #[.bool bb] 4)).grownBy w2 (Value.slice oa i oc).ownBlock → ((Value.slice oa i oc).ownBlock = some g ∨ g = (wr.alloc (.cells #[.bool bb] 4)).heap.size) →
          w2.cell? ⟨w.heap.size + 1 + 1, 0, none⟩ = some (.slice oa i oc) ∧ w2.frozen? ⟨w.heap.size + 1 + 1, 0, none⟩ = false ∧ Hid (BuildMem W (w.heap.size + 1 + 1) (w2.setCell ⟨w.heap.size + 1 + 1, 0, none⟩ (.slice (some ⟨g, 0, none⟩) (i + 1) cap')) (.slice (some ⟨g, 0, none⟩) (i + 1) cap') (.slice none 0 0) (i + 1) 0 M.acc (fun _ => 0) (fun _ => 0) M.nxt) := by
        intro g cap' w2 ho hg hf
        rw [← HBB.out] at ho
        obtain ⟨e0, _, e2, _⟩ := cell_two (HBa.out.two.grown0 hg)
        exact ⟨e0, e2, HBa.out.acc ho hg hf⟩
      clear hB hbw hV
      go_wp2_with (at_builtin; refine wpList_append_fresh _ rfl _ _ 27 rfl (w.heap.size + 1 + 1 + 1) 4 i4 (.bool false) 1 1 Try.underlying27 hi4 hz4 hz41 hz42 rfl (by decide) _ i (acells M.acc i) rfl hna ⟨wr.heap.size, 0, none⟩ 1 1 [.bool bb] rfl rfl (cell_one_new _ _ _) (by intro u hu; simp at hu; subst hu; rfl) (by decide) (by unfold maxLen; omega) (by omega) (by simp; omega) ?_; intro g cap' w2 hown hgr hfr; obtain ⟨e0, e1, HN⟩ := HACC g cap' w2 hown hgr hfr; clear HACC hown hgr hfr)
      go_roundw
      case rel => exact ⟨i + 1, _, by omega, by go_num, HN.out⟩
      case measure => simp [intOf]; omega
    · have he : i = M.n := by omega
      have q1 : ¬ (i : Int) < (M.n : Int) := by omega
      subst he
      have HB : Hid (BuildMem W (w.heap.size + 1 + 1) wr va (.slice none 0 0) M.n 0 M.acc (fun _ => 0) (fun _ => 0) M.nxt) := hB
      obtain ⟨r0, r1, _, _⟩ := cell_two ((hB.two.blw.block _ (by omega)).trans b0)
      clear hB
      go_wp2_with fail
      go_loopw [28] (fun i' wi => ∃ i : Nat, ∃ vn R C, i ≤ M.n ∧ i' = .int .i64 (i : Int) ∧ BuildMem W (w.heap.size + 1 + 1) wi va vn M.n i M.acc R C M.nxt) (fun i' _ => M.n - (intOf i').toNat)
      case atStart => exact ⟨0, _, _, _, by omega, rfl, HB.out⟩
      case round =>
        obtain ⟨i, vn, R, C, hi2, rfl, hB⟩ := hrel
        rename World => wi
        have hbw2 : Below w.heap.size w wi := BW.trans (hB.two.blw.mono (by omega))
        have hsz2 := heap_lt hB.two.blk
        by_cases hlt : i < M.n
        · have q2 : (i : Int) < (M.n : Int) := by omega
          have z1 := (hV.below hbw2).row i hlt
          have HBX : Hid (BuildMem W (w.heap.size + 1 + 1) wi va vn M.n i M.acc R C M.nxt) := hB
          clear hB
          go_wp2_with fail
          go_loopw [8, 34] (fun vr c' wk => ∃ c : Nat, c ≤ 8 ∧ c' = .int .i64 (c : Int) ∧ BuildMem W (w.heap.size + 1 + 1) wk va vn M.n i M.acc R C M.nxt ∧ wk.ownsRow (w.heap.size + 1 + 1 + 1) 3 1 vr c (icells (M.nxt i) c) ∧ ∀ j, j < i → vr.ownBlock ≠ some (R j)) (fun _ c' _ => 8 - (intOf c').toNat)
          case atStart => exact ⟨0, by omega, rfl, HBX.out, World.ownsRow_nil _ _ _ _, by intro j _ h; simp [Value.ownBlock] at h⟩
          case round =>
            obtain ⟨c, hc, rfl, hBi, hr, hd⟩ := hrel
            rename World => wk
            have hbw3 : Below w.heap.size w wk := BW.trans (hBi.two.blw.mono (by omega))
            have hsz3 := heap_lt hBi.two.blk
            by_cases hl8 : c < 8
            · have z2 := (hV.below hbw3).cel i c hlt hl8
              obtain ⟨nv, HNV⟩ : ∃ x, Hid (M.nxt i c = x) := ⟨_, rfl⟩
              rw [HNV.out] at z2
              have HBi : Hid (BuildMem W (w.heap.size + 1 + 1) (wk.alloc (.cells #[.int .i64 (nv : Int)] 3)) va vn M.n i M.acc R C M.nxt) := hBi.below ((Below.refl _ _).alloc (Nat.le_refl _) _)
              have HD : Hid (∀ j, j < i → (u8 : Value).ownBlock ≠ some (R j)) := hd
              have hna := hr.alloc (.cells #[.int .i64 (nv : Int)] 3)
              have HRO : Hid (∀ j, j < i → R j < wk.heap.size) := fun j hj => ((hBi.rows j hj).lt (R j) rfl).2
              have q3 : (c : Int) < 8 := by omega
              clear hBi hd hr hbw3
              go_wp2_with (at_builtin; refine wpList_append_fresh _ rfl _ _ 22 rfl (w.heap.size + 1 + 1 + 1) 3 i3 (.int .i64 0) 1 8 Try.underlying22 hi3 hz3 hz31 hz32 rfl (by decide) _ c (icells (M.nxt i) c) rfl hna ⟨wk.heap.size, 0, none⟩ 1 1 [.int .i64 (nv : Int)] rfl rfl (cell_one_new _ _ _) (by intro u hu; simp at hu; subst hu; rfl) (by decide) (by unfold maxLen; omega) (by omega) (by simp; omega) ?_; intro g cap' w2 hown hgr hfr; have HO : Hid (w2.ownsRow (w.heap.size + 1 + 1 + 1) 3 1 (.slice (some ⟨g, 0, none⟩) (c + 1) cap') (c + 1) (icells (M.nxt i) c ++ [.int .i64 (nv : Int)])) := hown; have HG : Hid ((wk.alloc (.cells #[.int .i64 (nv : Int)] 3)).grownBy w2 (u8 : Value).ownBlock) := hgr; have HF : Hid ((u8 : Value).ownBlock = some g ∨ g = (wk.alloc (.cells #[.int .i64 (nv : Int)] 3)).heap.size) := hfr; clear hown hgr hfr)
              go_roundw
              case rel =>
                have ho := HO.out
                rw [show icells (M.nxt i) c ++ [.int .i64 (nv : Int)] = icells (M.nxt i) (c + 1) by rw [icells_succ, HNV.out]] at ho
                refine ⟨c + 1, by omega, by go_num, HBi.out.grown hna HD.out HG.out, ho, ?_⟩
                intro j hj e
                simp only [Value.ownBlock, Option.some.injEq] at e
                rcases HF.out with h' | h'
                · exact HD.out j hj (by subst e; exact h')
                · have := HRO.out j hj; simp at h'; omega
              case measure => simp [intOf]; omega
            · have he : c = 8 := by omega
              subst he
              obtain ⟨ar, cr, rfl, har⟩ := ownsRow_shape hr
              obtain ⟨gr, rfl, _⟩ := har (by omega)
              obtain ⟨y2, y3, g2, g3⟩ := cell_two hBi.two.blk
              have HBi : Hid (BuildMem W (w.heap.size + 1 + 1) (wk.alloc (.cells #[.slice (some ⟨gr, 0, none⟩) 8 cr] 22)) va vn M.n i M.acc R C M.nxt) := hBi.below ((Below.refl _ _).alloc (Nat.le_refl _) _)
              have hna := HBi.out.two.own1
              obtain ⟨na, nc, hvn, _⟩ := ownsRow_shape hna
              subst hvn
              have HR : Hid ((wk.alloc (.cells #[.slice (some ⟨gr, 0, none⟩) 8 cr] 22)).ownsRow (w.heap.size + 1 + 1 + 1) 3 1 (.slice (some ⟨gr, 0, none⟩) 8 cr) 8 (icells (M.nxt i) 8)) := hr.alloc _
              have HG1 : ∀ w2, (wk.alloc (.cells #[.slice (some ⟨gr, 0, none⟩) 8 cr] 22)).grownBy w2 (Value.slice na i nc).ownBlock → w2.cell? ⟨w.heap.size + 1 + 1, 1, none⟩ = some (.slice na i nc) ∧ w2.frozen? ⟨w.heap.size + 1 + 1, 1, none⟩ = false := fun w2 hg => by
                obtain ⟨_, e1, _, e3⟩ := cell_two (HBi.out.two.grown1 hg)
                exact ⟨e1, e3⟩
              have q3 : ¬ ((8 : Nat) : Int) < 8 := by omega
              clear hBi hd hr hbw3 har
              go_wp2_with (at_builtin; refine wpList_append_fresh _ rfl _ _ 28 rfl (w.heap.size + 1 + 1 + 1) 22 iR (.slice none 0 0) 1 24 Try.underlying28 hiR hzR hzR1 hzR2 rfl (by decide) _ i (scells R C i) rfl hna ⟨wk.heap.size, 0, none⟩ 1 1 [.slice (some ⟨gr, 0, none⟩) 8 cr] rfl rfl (cell_one_new _ _ _) (by intro u hu; simp at hu; subst hu; rfl) (by decide) (by unfold maxLen; omega) (by omega) (by simp; omega) ?_; intro g cap' w2 hown hgr hfr; obtain ⟨e1, e3⟩ := HG1 w2 hgr; have HO : Hid (w2.ownsRow (w.heap.size + 1 + 1 + 1) 22 1 (.slice (some ⟨g, 0, none⟩) (i + 1) cap') (i + 1) (scells R C i ++ [.slice (some ⟨gr, 0, none⟩) 8 cr])) := hown; have HG : Hid ((wk.alloc (.cells #[.slice (some ⟨gr, 0, none⟩) 8 cr] 22)).grownBy w2 (Value.slice na i nc).ownBlock) := hgr; have HF : Hid ((Value.slice na i nc).ownBlock = some g ∨ g = (wk.alloc (.cells #[.slice (some ⟨gr, 0, none⟩) 8 cr] 22)).heap.size) := hfr; clear hown hgr hfr HG1)
              go_roundw
              case rel => exact ⟨i + 1, _, _, _, by omega, by go_num, HBi.out.nxt HR.out HO.out HG.out HF.out⟩
              case measure => simp [intOf]; omega
        · have he : i = M.n := by omega
          have q2 : ¬ (i : Int) < (M.n : Int) := by omega
          subst he
          obtain ⟨U, rfl, rfl, hT, hF⟩ := hB.done (N := M) (by omega) rfl (fun _ _ => rfl) (fun _ _ _ _ => rfl)
          have hq : wi.heap[w.heap.size + 1]? = some (.cells #[.slice none 0 0, .slice none 0 0] 30 (0, 0)) := (hB.two.blw.block _ (by omega)).trans b1
          obtain ⟨q0', q1', p0, p1⟩ := cell_two hq
          obtain ⟨s0, s1, _, _⟩ := cell_two hB.two.blk
          have HT : Hid (TabAt wi U M) := hT
          have HBB : Hid (Below w.heap.size w wi) := hbw2
          clear hB hT hV
          go_wp2_with fail
          obtain ⟨r1, r2, r3⟩ := res_two (u := .slice (some ⟨U.ba, U.oa, none⟩) M.n U.ca) (v := .slice (some ⟨U.bn, U.on, none⟩) M.n U.cn) hq
          refine bodyPost_ret (v := .agg #[.slice (some ⟨U.ba, U.oa, none⟩) M.n U.ca, .slice (some ⟨U.bn, U.on, none⟩) M.n U.cn]) (by simp [results, Try.results66, go_sem, r1, r2]) rfl ?_
          exact ⟨U, rfl, HT.out.res (N := w.heap.size + 1 + 1 + 1) hF (by omega) _ _, hF.mono (by omega), below_res HBB.out (by omega) _ _⟩
end Go.Proofs.Ytpngikmcjkjdaab

namespace Go.Proofs.Ytpngikmcjkjdaab
open Go.RowKit
set_option linter.unusedVariables false
set_option maxRecDepth 20000 in
set_option maxHeartbeats 2000000 in
theorem wleast_ok (gw ga ca gn cn : Nat) (M : Tab) (L : List Nat → Bool) (bu : Nat) (w : World) (hM : WideAt w gw ga ca gn cn M) (hN : Numbered M) (hn : M.n ≤ 100000000) (hL : ∀ x, Notes x → M.accepts x = L x) (hb0 : 1 ≤ bu) (hb1 : bu ≤ 40) :
    Calls Try.prog 54 #[.pointer (some ⟨gw, 0, none⟩), .int .i64 bu] w (LeastPost L bu M.n w) := by
  obtain ⟨W, hW⟩ : ∃ W, W = w.alloc (.cells #[.slice none 0 0, .slice none 0 0] 30) := ⟨_, rfl⟩
  have BW : Below w.heap.size w W := by rw [hW]; exact (Below.refl _ _).alloc (Nat.le_refl _) _
  have hWs : w.heap.size < W.heap.size := by rw [hW]; simp
  have b2 : W.heap[w.heap.size]? = some (.cells #[.slice none 0 0, .slice none 0 0] 30 (0, 0)) := by rw [hW]; exact heap_at_new (by simp)
  have hM0 := hM.below BW
  have xp := hM.p1
  have hgw := lt_of_cell hM.p1
  have HO := inOrder_ok gn cn M W hM0.cel hN hn
  have HC := shrink_ok gw ga ca gn cn M bu W hM0 hb0 hb1 hN.pos hn hN.nx
  have HN : Hid (Numbered M) := hN
  have HL : Hid (∀ x, Notes x → M.accepts x = L x) := hL
  clear hN hL
  go_enter Try.func54, Try.ntmps54
  go_wp2_with fail
  rw [← hW]
  clear hW
  refine HO.mono ?_
  rintro e w1 ⟨rfl, hw1⟩
  obtain rfl : W = w1 := hw1.symm
  clear HO hw1
  go_wp2_with fail
  refine HC.mono ?_
  clear HC xp hgw
  rintro e w5 ⟨hB5, hcase⟩
  have a2 := (hB5.block _ (by omega)).trans b2
  have BW5 : Below w.heap.size w w5 := BW.trans (hB5.mono (by omega))
  have hs5 := hB5.size
  clear b2 hB5 BW
  obtain ⟨q0, q1, p0, p1⟩ := cell_two a2
  have hsa : w.heap.size < w5.heap.size := by omega
  rcases hcase with ⟨f, hs, V', hst, hle, rfl, hT, hF, hFr⟩ | ⟨rfl, hs, hgt, hlt, hap⟩
  · have HS : Hid _ := hst
    clear hst
    go_wp2_with fail
    obtain ⟨r1, r2⟩ := res_alloc (u := .slice (some ⟨V'.ba, V'.oa, none⟩) hs.length V'.ca) (v := .slice (some ⟨V'.bn, V'.on, none⟩) hs.length V'.cn) a2 (.cells #[.slice (some ⟨V'.ba, V'.oa, none⟩) hs.length V'.ca, .slice (some ⟨V'.bn, V'.on, none⟩) hs.length V'.cn] 30)
    refine bodyPost_ret (v := .tuple #[.agg #[.slice (some ⟨V'.ba, V'.oa, none⟩) hs.length V'.ca, .slice (some ⟨V'.bn, V'.on, none⟩) hs.length V'.cn], .int .i64 0]) (by simp [results, Try.results54, go_sem, r1, r2]) rfl ?_
    have hBe := (below_res BW5 (b := w.heap.size) (by omega) (.slice (some ⟨V'.ba, V'.oa, none⟩) hs.length V'.ca) (.slice (some ⟨V'.bn, V'.on, none⟩) hs.length V'.cn)).alloc (by simp; omega) (.cells #[.slice (some ⟨V'.ba, V'.oa, none⟩) hs.length V'.ca, .slice (some ⟨V'.bn, V'.on, none⟩) hs.length V'.cn] 30)
    have hTe := (hT.res hF (b := w.heap.size) (by omega) (.slice (some ⟨V'.ba, V'.oa, none⟩) hs.length V'.ca) (.slice (some ⟨V'.bn, V'.on, none⟩) hs.length V'.cn)).below ((Below.refl _ _).alloc (Nat.le_refl _) (.cells #[.slice (some ⟨V'.ba, V'.oa, none⟩) hs.length V'.ca, .slice (some ⟨V'.bn, V'.on, none⟩) hs.length V'.cn] 30))
    exact ⟨hBe, .inl ⟨_, V', merged_least HN.out HS.out HL.out, hle, rfl, hTe, hF.mono (by omega), ((hFr.set _ _ _).set _ _ _).below ((Below.refl _ _).alloc (Nat.le_refl _) _)⟩⟩
  · go_wp2_with fail
    obtain ⟨r1, r2⟩ := res_alloc (u := .slice none 0 0) (v := .slice none 0 0) a2 (.cells #[.slice none 0 0, .slice none 0 0] 30)
    refine bodyPost_ret (v := .tuple #[.agg #[.slice none 0 0, .slice none 0 0], .int .i64 5]) (by simp [results, Try.results54, go_sem, r1, r2]) rfl ?_
    have hBe := (below_res BW5 (b := w.heap.size) (by omega) (.slice none 0 0) (.slice none 0 0)).alloc (by simp; omega) (.cells #[.slice none 0 0, .slice none 0 0] 30)
    have hl := heads_le hs hlt hap
    exact ⟨hBe, .inr ⟨rfl, by omega, fun R hRl => by have := apart_le hRl HN.out HL.out hs hlt hap; omega⟩⟩
end Go.Proofs.Ytpngikmcjkjdaab

namespace Go.Proofs.Ytpngikmcjkjdaab
open Go.RowKit
set_option linter.unusedVariables false
theorem LeastPost.wrap {L : List Nat → Bool} {budget bound : Nat} {w w0 w1 : World} {e : Ending} (h : LeastPost L budget bound w0 e w1) (h0 : Below w.heap.size w w0) (hs : w.heap.size ≤ w0.heap.size) :
    ∃ a0 n0 c0 a1 n1 c1 er, e = .returned (.tuple #[.agg #[.slice a0 n0 c0, .slice a1 n1 c1], .int .i64 er]) ∧ Below w.heap.size w w1 ∧ Below w0.heap.size w0 w1 ∧
      ∀ b, w.heap.size ≤ b → b < w0.heap.size → LeastPost L budget bound w e ((w1.setCell ⟨b, 0, none⟩ (.slice a0 n0 c0)).setCell ⟨b, 1, none⟩ (.slice a1 n1 c1)) := by
  obtain ⟨hb, hc⟩ := h
  have hB := h0.trans (hb.mono hs)
  rcases hc with ⟨R, V, hR, hn, rfl, hT, hF, hFr⟩ | ⟨rfl, hlt, hR⟩
  · exact ⟨_, _, _, _, _, _, _, rfl, hB, hb, fun b h1 h2 => ⟨below_res hB h1 _ _, .inl ⟨R, V, hR, hn, rfl, hT.res hF h2 _ _, hF.mono hs, (hFr.set _ _ _).set _ _ _⟩⟩⟩
  · exact ⟨_, _, _, _, _, _, _, rfl, hB, hb, fun b h1 h2 => ⟨below_res hB h1 _ _, .inr ⟨rfl, hlt, hR⟩⟩⟩
theorem LeastPost.congr {L L' : List Nat → Bool} {budget bound : Nat} {w w' : World} {e : Ending} (h : LeastPost L budget bound w e w') (hL : ∀ x, Notes x → L x = L' x) : LeastPost L' budget bound w e w' := by
  obtain ⟨hb, hc⟩ := h
  refine ⟨hb, ?_⟩
  rcases hc with ⟨R, V, hR, hn, he, hT, hF, hFr⟩ | ⟨he, hlt, hR⟩
  · exact .inl ⟨R, V, ⟨hR.num, hR.apart, fun x hx => by rw [hR.lang x hx, hL x hx]⟩, hn, he, hT, hF, hFr⟩
  · exact .inr ⟨he, hlt, fun R' hR' => hR R' ⟨hR'.num, hR'.apart, fun x hx => by rw [hR'.lang x hx, hL x hx]⟩⟩
def allTab : Tab := ⟨1, fun _ => true, fun _ _ => 0⟩
theorem allTab_ok : allTab.Ok := ⟨by decide, by decide, fun _ _ _ _ => by show 0 < 1; decide⟩
end Go.Proofs.Ytpngikmcjkjdaab

namespace Go.Proofs.Ytpngikmcjkjdaab
open Go.RowKit
set_option linter.unusedVariables false
structure RLay where
  (aa an : Option Addr)
  (na ca nn cn : Nat)
  (ra : Nat → Option Addr)
  (rl rc : Nat → Nat)
structure RawAt (w : World) (r : RLay) (A : Nat → Bool) (X : Nat → Nat → Int) : Prop where
  la : r.na ≤ 9223372036854775807
  ln : r.nn ≤ 9223372036854775807
  lr : ∀ i, i < r.nn → r.rl i ≤ 9223372036854775807
  acc : ∀ i, i < r.na → ∃ b o, r.aa = some ⟨b, o, none⟩ ∧ w.cell? ⟨b, o + i, none⟩ = some (.bool (A i))
  row : ∀ i, i < r.nn → ∃ b o, r.an = some ⟨b, o, none⟩ ∧ w.cell? ⟨b, o + i, none⟩ = some (.slice (r.ra i) (r.rl i) (r.rc i))
  cel : ∀ i c, i < r.nn → c < r.rl i → ∃ b o, r.ra i = some ⟨b, o, none⟩ ∧ w.cell? ⟨b, o + c, none⟩ = some (.int .i64 (X i c))
theorem RawAt.below {w w' : World} {r : RLay} {A : Nat → Bool} {X : Nat → Nat → Int} (h : RawAt w r A X) (hb : Below w.heap.size w w') : RawAt w' r A X :=
  ⟨h.la, h.ln, h.lr, fun i hi => by obtain ⟨b, o, e, hc⟩ := h.acc i hi; exact ⟨b, o, e, by rw [(bcell hb).1 _ _ (lt_of_cell hc)]; exact hc⟩,
    fun i hi => by obtain ⟨b, o, e, hc⟩ := h.row i hi; exact ⟨b, o, e, by rw [(bcell hb).1 _ _ (lt_of_cell hc)]; exact hc⟩,
    fun i c hi hc => by obtain ⟨b, o, e, hcc⟩ := h.cel i c hi hc; exact ⟨b, o, e, by rw [(bcell hb).1 _ _ (lt_of_cell hcc)]; exact hcc⟩⟩
end Go.Proofs.Ytpngikmcjkjdaab

namespace Go.Proofs.Ytpngikmcjkjdaab
open Go.RowKit
set_option linter.unusedVariables false
set_option linter.unusedSimpArgs false
def freeC (c : Nat → Cu) : Nat := if (c 0).op = false then 0 else if (c 1).op = false then 1 else if (c 2).op = false then 2 else if (c 3).op = false then 3 else 4
theorem freeC_le (c : Nat → Cu) : freeC c ≤ 4 := by unfold freeC; repeat' split <;> try omega
theorem freeC_shut {c : Nat → Cu} (h : freeC c < 4) : (c (freeC c)).op = false := by
  unfold freeC at h ⊢
  by_cases a : (c 0).op = false
  · simp [a]
  · by_cases b : (c 1).op = false
    · simp [a, b]
    · by_cases d : (c 2).op = false
      · simp [a, b, d]
      · by_cases e : (c 3).op = false
        · simp [a, b, d, e]
        · simp [a, b, d, e] at h
theorem freeC_open {c : Nat → Cu} {i : Nat} (h : i < freeC c) : (c i).op = true := by
  have h4 := freeC_le c
  unfold freeC at h
  have k : ∀ j, ¬ (c j).op = false → (c j).op = true := fun j hj => by simpa using hj
  by_cases a : (c 0).op = false
  · simp [a] at h
  · by_cases b : (c 1).op = false
    · simp [a, b] at h; subst h; exact k 0 a
    · by_cases d : (c 2).op = false
      · simp [a, b, d] at h
        rcases (show i = 0 ∨ i = 1 by omega) with rfl | rfl
        · exact k 0 a
        · exact k 1 b
      · by_cases e : (c 3).op = false
        · simp [a, b, d, e] at h
          rcases (show i = 0 ∨ i = 1 ∨ i = 2 by omega) with rfl | rfl | rfl
          · exact k 0 a
          · exact k 1 b
          · exact k 2 d
        · simp [a, b, d, e] at h
          rcases (show i = 0 ∨ i = 1 ∨ i = 2 ∨ i = 3 by omega) with rfl | rfl | rfl | rfl
          · exact k 0 a
          · exact k 1 b
          · exact k 2 d
          · exact k 3 e
def openCu (U : Lay) (n : Nat) : Cu := ⟨true, .slice (some ⟨U.ba, U.oa, none⟩) n U.ca, .slice (some ⟨U.bn, U.on, none⟩) n U.cn, false, ByteArray.empty⟩
theorem TabAt.touch1 {w w' : World} {U : Lay} {M : Tab} {bx N : Nat} (h : TabAt w U M) (hU : U.From N M.n) (hT : Touch (fun k => k = bx) w w') (hb : bx < N) : TabAt w' U M := by
  have key : ∀ b o v, w.cell? ⟨b, o, none⟩ = some v → N ≤ b → w'.cell? ⟨b, o, none⟩ = some v := fun b o v hc hn => by
    have hl := lt_of_cell hc
    have hk := hT.block b hl (by omega)
    simp only [World.cell?] at hc ⊢
    rw [hk]; exact hc
  exact ⟨fun i hi => key _ _ _ (h.acc i hi) hU.1, fun i hi => key _ _ _ (h.row i hi) hU.2, fun i c hi hc => key _ _ _ (h.cel i c hi hc) (hU.3 i hi)⟩
theorem touch_drew1 {S : Nat → Prop} {w w' : World} (h : Touch S w w') : Touch S w w'.drew := ⟨h.os, h.tape, h.output, h.size, h.block⟩
set_option maxRecDepth 20000 in
set_option maxHeartbeats 8000000 in
theorem bopen_ok (V : Lay) (M : Tab) (w : World) (bx n : Nat) (t : Nat → ByteArray) (c : Nat → Cu) (hM : M.Ok) (hV : TabAt w V M) (h : BxAt w bx t n (cuv c)) (hf : freeC c < 4) :
    Calls Try.prog 48 #[.pointer (some ⟨bx, 0, none⟩), .agg #[.slice (some ⟨V.ba, V.oa, none⟩) M.n V.ca, .slice (some ⟨V.bn, V.on, none⟩) M.n V.cn]] w
      fun e w' => ∃ U : Lay, e = .returned (.tuple #[.int .i64 (freeC c : Int), .int .i64 0]) ∧ TabAt w' U M ∧ U.From w.heap.size M.n ∧ BxAt w' bx t n (cuv (setCu c (freeC c) (openCu U M.n))) ∧ Touch (fun k => k = bx) w w' := by
  have B1 : Below w.heap.size w (w.alloc (.cells #[.slice (some ⟨V.ba, V.oa, none⟩) M.n V.ca, .slice (some ⟨V.bn, V.on, none⟩) M.n V.cn] 30)) := (Below.refl _ _).alloc (Nat.le_refl _) _
  have hk0 : (w.alloc (.cells #[.slice (some ⟨V.ba, V.oa, none⟩) M.n V.ca, .slice (some ⟨V.bn, V.on, none⟩) M.n V.cn] 30)).heap[w.heap.size]? = some (.cells #[.slice (some ⟨V.ba, V.oa, none⟩) M.n V.ca, .slice (some ⟨V.bn, V.on, none⟩) M.n V.cn] 30 (0, 0)) := heap_at_new (by simp)
  have HV := valid_ok V M _ hM (hV.below B1)
  have HO : Hid (∀ i, i < freeC c → (c i).op = true) := fun i hi => freeC_open hi
  have HS : Hid ((c (freeC c)).op = false) := freeC_shut hf
  have HB : Hid (BxAt w bx t n (cuv c)) := h
  have HBl : bx < w.heap.size := World.rowIs.lt h
  have HT : Hid (TabAt w V M) := hV
  obtain ⟨f, HF⟩ : ∃ f, Hid (freeC c = f) := ⟨_, rfl⟩
  rw [HF.out] at hf HO HS ⊢
  clear h hV HF
  go_enter Try.func48, Try.ntmps48
  go_wp2_with fail
  refine HV.mono ?_
  rintro e w1 ⟨rfl, hb1⟩
  have B2 : Below w.heap.size w w1 := B1.trans (hb1.mono (by simp))
  have hk1 := (hb1.block _ (by simp)).trans hk0
  have hs1 := heap_lt hk1
  clear HV hb1 hk0 B1
  go_wp2_with fail
  go_loopw [6] (fun i' wr => ∃ i : Nat, i ≤ f ∧ i' = .int .i64 (i : Int) ∧ wr = w1) (fun i' _ => 4 - (intOf i').toNat)
  case atStart => exact ⟨0, by omega, rfl, rfl⟩
  case round =>
    obtain ⟨i, hi, rfl, rfl⟩ := hrel
    have hx := HB.out.below B2
    obtain ⟨x0, x1, _, _⟩ := cell_two hk1
    rcases (show i = 0 ∨ i = 1 ∨ i = 2 ∨ i = 3 by omega) with rfl | rfl | rfl | rfl
    · obtain ⟨c0, d0⟩ := hx.cu (k := 0) (by omega)
      by_cases hl : 0 < f
      · rw [HO.out 0 hl] at c0
        clear hx d0 hk1
        go_wp2_with fail
        go_roundw
        case rel => exact ⟨1, by omega, by go_num, trivial⟩
        case measure => simp [intOf]
      · obtain rfl : f = 0 := by omega
        rw [HS.out] at c0
        have f0 := World.rowIs.frozen hx 61
        have HC := copy_ok V M wr hM (HT.out.below B2)
        clear d0 hk1 hl hi hx
        go_wp2_with fail
        refine HC.mono ?_
        rintro e w2 ⟨U, rfl, hU, hUF, hb2⟩
        have hx2 := (HB.out.below B2).below hb2
        have B3 : Below w.heap.size w w2 := B2.trans (hb2.mono (by omega))
        have hs2 := hb2.size
        obtain ⟨W3, hW3⟩ : ∃ W, W = w2.alloc (.cells #[.slice (some ⟨U.ba, U.oa, none⟩) M.n U.ca, .slice (some ⟨U.bn, U.on, none⟩) M.n U.cn] 30) := ⟨_, rfl⟩
        have B4 : Below w2.heap.size w2 W3 := by rw [hW3]; exact (Below.refl _ _).alloc (Nat.le_refl _) _
        have hk3 : W3.heap[w2.heap.size]? = some (.cells #[.slice (some ⟨U.ba, U.oa, none⟩) M.n U.ca, .slice (some ⟨U.bn, U.on, none⟩) M.n U.cn] 30 (0, 0)) := by rw [hW3]; exact heap_at_new (by simp)
        obtain ⟨y0, y1, _, _⟩ := cell_two hk3
        have hx3 := hx2.below B4
        have g0 := World.rowIs.frozen hx3 61
        have g1 := World.rowIs.frozen hx3 (61 + 1)
        have g2 := World.rowIs.frozen hx3 (61 + 2)
        have g3 := World.rowIs.frozen hx3 (61 + 3)
        have g4 := World.rowIs.frozen hx3 (61 + 4)
        obtain ⟨d0, d1, d2, d3, d4⟩ := hx3.cu (k := 0) (by omega)
        have HU : Hid (TabAt W3 U M) := hU.below B4
        have HX3 : Hid (BxAt W3 bx t n (cuv c)) := hx3
        have B5 : Below w.heap.size w W3 := B3.trans (B4.mono (by omega))
        clear HC hU hx2 hb2 hx3 hk3 B4 f0 c0 x0 x1
        go_wp2_with fail
        rw [← hW3]
        clear hW3
        go_region
        go_wp2_with fail
        go_ret2
        obtain ⟨WF, hWF⟩ : ∃ W, W = ((((W3.setCell ⟨bx, 61, none⟩ (.bool true)).setCell ⟨bx, 62, none⟩ (.slice (some ⟨U.ba, U.oa, none⟩) M.n U.ca)).setCell ⟨bx, 63, none⟩ (.slice (some ⟨U.bn, U.on, none⟩) M.n U.cn)).setCell ⟨bx, 64, none⟩ (.bool false)).setCell ⟨bx, 65, none⟩ (.string ⟨#[]⟩) := ⟨_, rfl⟩
        have hp : BxAt WF bx t n (cuv (setCu c 0 (openCu U M.n))) ∧ Touch (fun k => k = bx) W3 WF := by rw [hWF]; exact HX3.out.put (k := 0) (by omega) (openCu U M.n)
        rw [← hWF]
        clear hWF
        have hT := touch_drew1 hp.2
        exact ⟨U, rfl, HU.out.touch1 hUF hT (by omega), hUF.mono (by omega), hp.1, touch_then' (touch_of_below' B5) hT⟩
    · obtain ⟨c0, d0⟩ := hx.cu (k := 1) (by omega)
      by_cases hl : 1 < f
      · rw [HO.out 1 hl] at c0
        clear hx d0 hk1
        go_wp2_with fail
        go_roundw
        case rel => exact ⟨2, by omega, by go_num, trivial⟩
        case measure => simp [intOf]
      · obtain rfl : f = 1 := by omega
        rw [HS.out] at c0
        have f0 := World.rowIs.frozen hx 66
        have HC := copy_ok V M wr hM (HT.out.below B2)
        clear d0 hk1 hl hi hx
        go_wp2_with fail
        refine HC.mono ?_
        rintro e w2 ⟨U, rfl, hU, hUF, hb2⟩
        have hx2 := (HB.out.below B2).below hb2
        have B3 : Below w.heap.size w w2 := B2.trans (hb2.mono (by omega))
        have hs2 := hb2.size
        obtain ⟨W3, hW3⟩ : ∃ W, W = w2.alloc (.cells #[.slice (some ⟨U.ba, U.oa, none⟩) M.n U.ca, .slice (some ⟨U.bn, U.on, none⟩) M.n U.cn] 30) := ⟨_, rfl⟩
        have B4 : Below w2.heap.size w2 W3 := by rw [hW3]; exact (Below.refl _ _).alloc (Nat.le_refl _) _
        have hk3 : W3.heap[w2.heap.size]? = some (.cells #[.slice (some ⟨U.ba, U.oa, none⟩) M.n U.ca, .slice (some ⟨U.bn, U.on, none⟩) M.n U.cn] 30 (0, 0)) := by rw [hW3]; exact heap_at_new (by simp)
        obtain ⟨y0, y1, _, _⟩ := cell_two hk3
        have hx3 := hx2.below B4
        have g0 := World.rowIs.frozen hx3 66
        have g1 := World.rowIs.frozen hx3 (66 + 1)
        have g2 := World.rowIs.frozen hx3 (66 + 2)
        have g3 := World.rowIs.frozen hx3 (66 + 3)
        have g4 := World.rowIs.frozen hx3 (66 + 4)
        obtain ⟨d0, d1, d2, d3, d4⟩ := hx3.cu (k := 1) (by omega)
        have HU : Hid (TabAt W3 U M) := hU.below B4
        have HX3 : Hid (BxAt W3 bx t n (cuv c)) := hx3
        have B5 : Below w.heap.size w W3 := B3.trans (B4.mono (by omega))
        clear HC hU hx2 hb2 hx3 hk3 B4 f0 c0 x0 x1
        go_wp2_with fail
        rw [← hW3]
        clear hW3
        go_region
        go_wp2_with fail
        go_ret2
        obtain ⟨WF, hWF⟩ : ∃ W, W = ((((W3.setCell ⟨bx, 66, none⟩ (.bool true)).setCell ⟨bx, 67, none⟩ (.slice (some ⟨U.ba, U.oa, none⟩) M.n U.ca)).setCell ⟨bx, 68, none⟩ (.slice (some ⟨U.bn, U.on, none⟩) M.n U.cn)).setCell ⟨bx, 69, none⟩ (.bool false)).setCell ⟨bx, 70, none⟩ (.string ⟨#[]⟩) := ⟨_, rfl⟩
        have hp : BxAt WF bx t n (cuv (setCu c 1 (openCu U M.n))) ∧ Touch (fun k => k = bx) W3 WF := by rw [hWF]; exact HX3.out.put (k := 1) (by omega) (openCu U M.n)
        rw [← hWF]
        clear hWF
        have hT := touch_drew1 hp.2
        exact ⟨U, rfl, HU.out.touch1 hUF hT (by omega), hUF.mono (by omega), hp.1, touch_then' (touch_of_below' B5) hT⟩
    · obtain ⟨c0, d0⟩ := hx.cu (k := 2) (by omega)
      by_cases hl : 2 < f
      · rw [HO.out 2 hl] at c0
        clear hx d0 hk1
        go_wp2_with fail
        go_roundw
        case rel => exact ⟨3, by omega, by go_num, trivial⟩
        case measure => simp [intOf]
      · obtain rfl : f = 2 := by omega
        rw [HS.out] at c0
        have f0 := World.rowIs.frozen hx 71
        have HC := copy_ok V M wr hM (HT.out.below B2)
        clear d0 hk1 hl hi hx
        go_wp2_with fail
        refine HC.mono ?_
        rintro e w2 ⟨U, rfl, hU, hUF, hb2⟩
        have hx2 := (HB.out.below B2).below hb2
        have B3 : Below w.heap.size w w2 := B2.trans (hb2.mono (by omega))
        have hs2 := hb2.size
        obtain ⟨W3, hW3⟩ : ∃ W, W = w2.alloc (.cells #[.slice (some ⟨U.ba, U.oa, none⟩) M.n U.ca, .slice (some ⟨U.bn, U.on, none⟩) M.n U.cn] 30) := ⟨_, rfl⟩
        have B4 : Below w2.heap.size w2 W3 := by rw [hW3]; exact (Below.refl _ _).alloc (Nat.le_refl _) _
        have hk3 : W3.heap[w2.heap.size]? = some (.cells #[.slice (some ⟨U.ba, U.oa, none⟩) M.n U.ca, .slice (some ⟨U.bn, U.on, none⟩) M.n U.cn] 30 (0, 0)) := by rw [hW3]; exact heap_at_new (by simp)
        obtain ⟨y0, y1, _, _⟩ := cell_two hk3
        have hx3 := hx2.below B4
        have g0 := World.rowIs.frozen hx3 71
        have g1 := World.rowIs.frozen hx3 (71 + 1)
        have g2 := World.rowIs.frozen hx3 (71 + 2)
        have g3 := World.rowIs.frozen hx3 (71 + 3)
        have g4 := World.rowIs.frozen hx3 (71 + 4)
        obtain ⟨d0, d1, d2, d3, d4⟩ := hx3.cu (k := 2) (by omega)
        have HU : Hid (TabAt W3 U M) := hU.below B4
        have HX3 : Hid (BxAt W3 bx t n (cuv c)) := hx3
        have B5 : Below w.heap.size w W3 := B3.trans (B4.mono (by omega))
        clear HC hU hx2 hb2 hx3 hk3 B4 f0 c0 x0 x1
        go_wp2_with fail
        rw [← hW3]
        clear hW3
        go_region
        go_wp2_with fail
        go_ret2
        obtain ⟨WF, hWF⟩ : ∃ W, W = ((((W3.setCell ⟨bx, 71, none⟩ (.bool true)).setCell ⟨bx, 72, none⟩ (.slice (some ⟨U.ba, U.oa, none⟩) M.n U.ca)).setCell ⟨bx, 73, none⟩ (.slice (some ⟨U.bn, U.on, none⟩) M.n U.cn)).setCell ⟨bx, 74, none⟩ (.bool false)).setCell ⟨bx, 75, none⟩ (.string ⟨#[]⟩) := ⟨_, rfl⟩
        have hp : BxAt WF bx t n (cuv (setCu c 2 (openCu U M.n))) ∧ Touch (fun k => k = bx) W3 WF := by rw [hWF]; exact HX3.out.put (k := 2) (by omega) (openCu U M.n)
        rw [← hWF]
        clear hWF
        have hT := touch_drew1 hp.2
        exact ⟨U, rfl, HU.out.touch1 hUF hT (by omega), hUF.mono (by omega), hp.1, touch_then' (touch_of_below' B5) hT⟩
    · obtain ⟨c0, d0⟩ := hx.cu (k := 3) (by omega)
      by_cases hl : 3 < f
      · omega
      · obtain rfl : f = 3 := by omega
        rw [HS.out] at c0
        have f0 := World.rowIs.frozen hx 76
        have HC := copy_ok V M wr hM (HT.out.below B2)
        clear d0 hk1 hl hi hx
        go_wp2_with fail
        refine HC.mono ?_
        rintro e w2 ⟨U, rfl, hU, hUF, hb2⟩
        have hx2 := (HB.out.below B2).below hb2
        have B3 : Below w.heap.size w w2 := B2.trans (hb2.mono (by omega))
        have hs2 := hb2.size
        obtain ⟨W3, hW3⟩ : ∃ W, W = w2.alloc (.cells #[.slice (some ⟨U.ba, U.oa, none⟩) M.n U.ca, .slice (some ⟨U.bn, U.on, none⟩) M.n U.cn] 30) := ⟨_, rfl⟩
        have B4 : Below w2.heap.size w2 W3 := by rw [hW3]; exact (Below.refl _ _).alloc (Nat.le_refl _) _
        have hk3 : W3.heap[w2.heap.size]? = some (.cells #[.slice (some ⟨U.ba, U.oa, none⟩) M.n U.ca, .slice (some ⟨U.bn, U.on, none⟩) M.n U.cn] 30 (0, 0)) := by rw [hW3]; exact heap_at_new (by simp)
        obtain ⟨y0, y1, _, _⟩ := cell_two hk3
        have hx3 := hx2.below B4
        have g0 := World.rowIs.frozen hx3 76
        have g1 := World.rowIs.frozen hx3 (76 + 1)
        have g2 := World.rowIs.frozen hx3 (76 + 2)
        have g3 := World.rowIs.frozen hx3 (76 + 3)
        have g4 := World.rowIs.frozen hx3 (76 + 4)
        obtain ⟨d0, d1, d2, d3, d4⟩ := hx3.cu (k := 3) (by omega)
        have HU : Hid (TabAt W3 U M) := hU.below B4
        have HX3 : Hid (BxAt W3 bx t n (cuv c)) := hx3
        have B5 : Below w.heap.size w W3 := B3.trans (B4.mono (by omega))
        clear HC hU hx2 hb2 hx3 hk3 B4 f0 c0 x0 x1
        go_wp2_with fail
        rw [← hW3]
        clear hW3
        go_region
        go_wp2_with fail
        go_ret2
        obtain ⟨WF, hWF⟩ : ∃ W, W = ((((W3.setCell ⟨bx, 76, none⟩ (.bool true)).setCell ⟨bx, 77, none⟩ (.slice (some ⟨U.ba, U.oa, none⟩) M.n U.ca)).setCell ⟨bx, 78, none⟩ (.slice (some ⟨U.bn, U.on, none⟩) M.n U.cn)).setCell ⟨bx, 79, none⟩ (.bool false)).setCell ⟨bx, 80, none⟩ (.string ⟨#[]⟩) := ⟨_, rfl⟩
        have hp : BxAt WF bx t n (cuv (setCu c 3 (openCu U M.n))) ∧ Touch (fun k => k = bx) W3 WF := by rw [hWF]; exact HX3.out.put (k := 3) (by omega) (openCu U M.n)
        rw [← hWF]
        clear hWF
        have hT := touch_drew1 hp.2
        exact ⟨U, rfl, HU.out.touch1 hUF hT (by omega), hUF.mono (by omega), hp.1, touch_then' (touch_of_below' B5) hT⟩
end Go.Proofs.Ytpngikmcjkjdaab

namespace Go.Proofs.Ytpngikmcjkjdaab
open Go.RowKit
set_option linter.unusedVariables false
set_option linter.unusedSimpArgs false
set_option maxRecDepth 20000 in
set_option maxHeartbeats 1000000 in
theorem tnext_ok (w : World) (bx n m limit : Nat) (t : Nat → ByteArray) (c : Nat → Cu) (V : Lay) (M : Tab) (h : BxAt w bx t n (cuv c)) (hn : n ≤ 60) (hm : m < 4) (hop : (c m).op = true) (hl1 : 1 ≤ limit) (hl : limit ≤ 50) (htu : ∀ i, i < n → tuneB (t i) = true)
    (hA : (c m).vA = .slice (some ⟨V.ba, V.oa, none⟩) M.n V.ca) (hN : (c m).vN = .slice (some ⟨V.bn, V.on, none⟩) M.n V.cn) (hM : M.Ok) (hT : TabAt w V M) :
    Calls Try.prog 34 #[.pointer (some ⟨bx, 0, none⟩), .int .i64 (m : Int), .int .i64 (limit : Int)] w fun e w' => ∃ v, e = .returned (.tuple #[v, .bool (chooseB (c m) M t n limit), .int .i64 0]) ∧ w'.ownsRow w.heap.size 9 1 v (chooseL (c m) M t n limit).length (strs (chooseL (c m) M t n limit)) ∧ BxAt w' bx t n (cuv (nextC c m (chooseL (c m) M t n limit))) ∧ Touch (fun j => j = bx) w w' := by
  have HC := bnext_ok w bx n m limit t c V M h hn hm hop hl1 hl htu hA hN hM hT
  clear h hn hm hop hl1 hl htu hA hN hM hT
  go_enter Try.func34, Try.ntmps34
  go_wp2_with (go_at_call 49; refine HC.mono ?_; rintro e w1 ⟨v, rfl, ho, hx, ht⟩; have HX : Hid (w1.ownsRow w.heap.size 9 1 v (chooseL (c m) M t n limit).length (strs (chooseL (c m) M t n limit)) ∧ BxAt w1 bx t n (cuv (nextC c m (chooseL (c m) M t n limit))) ∧ Touch (fun j => j = bx) w w1) := ⟨ho, hx, ht⟩; clear ho hx ht)
  go_ret3
  exact ⟨v, rfl, HX.out.1, HX.out.2.1, HX.out.2.2⟩
set_option maxRecDepth 20000 in
set_option maxHeartbeats 1000000 in
theorem topen_ok (V : Lay) (M : Tab) (w : World) (bx n : Nat) (t : Nat → ByteArray) (c : Nat → Cu) (hM : M.Ok) (hV : TabAt w V M) (h : BxAt w bx t n (cuv c)) (hf : freeC c < 4) :
    Calls Try.prog 33 #[.pointer (some ⟨bx, 0, none⟩), .agg #[.slice (some ⟨V.ba, V.oa, none⟩) M.n V.ca, .slice (some ⟨V.bn, V.on, none⟩) M.n V.cn]] w
      fun e w' => ∃ U : Lay, e = .returned (.tuple #[.int .i64 (freeC c : Int), .int .i64 0]) ∧ TabAt w' U M ∧ U.From w.heap.size M.n ∧ BxAt w' bx t n (cuv (setCu c (freeC c) (openCu U M.n))) ∧ Touch (fun k => k = bx) w w' := by
  obtain ⟨W1, hW1⟩ : ∃ W, W = w.alloc (.cells #[.slice (some ⟨V.ba, V.oa, none⟩) M.n V.ca, .slice (some ⟨V.bn, V.on, none⟩) M.n V.cn] 30) := ⟨_, rfl⟩
  have B1 : Below w.heap.size w W1.drew := by rw [hW1]; exact ((Below.refl _ _).alloc (Nat.le_refl _) _).drew
  have hk1 : W1.heap[w.heap.size]? = some (.cells #[.slice (some ⟨V.ba, V.oa, none⟩) M.n V.ca, .slice (some ⟨V.bn, V.on, none⟩) M.n V.cn] 30 (0, 0)) := by rw [hW1]; exact heap_at_new (by simp)
  obtain ⟨y0, y1, _, _⟩ := cell_two hk1
  have hs1 : w.heap.size < W1.drew.heap.size := heap_lt hk1
  have HC := bopen_ok V M _ bx n t c hM (hV.below B1) (h.below B1) hf
  clear h hV hM hf
  go_enter Try.func33, Try.ntmps33
  go_wp2_with fail
  rw [← hW1]
  clear hW1 hk1
  go_region_with (go_at_call 48; refine HC.mono ?_; rintro e w1 ⟨U, rfl, hU, hUF, hx, hT⟩; have HX : Hid (TabAt w1 U M ∧ U.From w.heap.size M.n ∧ BxAt w1 bx t n (cuv (setCu c (freeC c) (openCu U M.n))) ∧ Touch (fun k => k = bx) w w1) := ⟨hU, hUF.mono (by omega), hx, touch_then' (touch_of_below' B1) hT⟩; clear hU hx hT hUF)
  go_wp2_with fail
  go_ret2
  exact ⟨U, rfl, HX.out.1, HX.out.2.1, HX.out.2.2.1, HX.out.2.2.2⟩
end Go.Proofs.Ytpngikmcjkjdaab

namespace Go.Proofs.Ytpngikmcjkjdaab
open Go.RowKit
set_option linter.unusedVariables false
set_option linter.unusedSimpArgs false
section
variable {t : Nat → ByteArray} {n : Nat}
end
theorem srt_unique : ∀ l m : List ByteArray, l.Pairwise (fun a b => less a b = true) → m.Pairwise (fun a b => less a b = true) → (∀ s, s ∈ l ↔ s ∈ m) → l = m
  | [], [], _, _, _ => rfl
  | [], b :: m, _, _, h => by have := (h b).2 (by simp); simp at this
  | a :: l, [], _, _, h => by have := (h a).1 (by simp); simp at this
  | a :: l, b :: m, hl, hm, h => by
    rw [List.pairwise_cons] at hl hm
    have e : a = b := by
      have h1 := (h a).1 (by simp)
      have h2 := (h b).2 (by simp)
      rw [List.mem_cons] at h1 h2
      rcases h1 with h1 | h1
      · exact h1
      · rcases h2 with h2 | h2
        · exact h2.symm
        · have := less_trans (hm.1 a h1) (hl.1 b h2)
          rw [less_irrefl] at this
          cases this
    subst e
    rw [srt_unique l m hl.2 hm.2 (fun s => ?_)]
    have hs := h s
    rw [List.mem_cons, List.mem_cons] at hs
    constructor
    · intro hx
      rcases hs.1 (.inr hx) with e | hy
      · exact absurd e.symm (less_ne (hl.1 s hx))
      · exact hy
    · intro hx
      rcases hs.2 (.inr hx) with e | hy
      · exact absurd e.symm (less_ne (hm.1 s hx))
      · exact hy
end Go.Proofs.Ytpngikmcjkjdaab

namespace Go.Proofs.Ytpngikmcjkjdaab
open Go.RowKit
set_option linter.unusedVariables false
set_option linter.unusedSimpArgs false
theorem wantL_filter (d : Cu) (M : Tab) (t : Nat → ByteArray) (n : Nat) : wantL d M t n = ((List.range n).map t).filter (wantB d M) := by
  induction n with
  | zero => rfl
  | succ n ih =>
    rw [List.range_succ, List.map_append, List.filter_append, ← ih, wantL]
    cases h : wantB d M (t n) <;> simp [h]
def Inc (l : List ByteArray) : Prop := l.Pairwise (fun a b => less a b = true)
theorem inc_range {t : Nat → ByteArray} {n : Nat} (h : SrtB t n) : Inc ((List.range n).map t) := by
  unfold Inc
  rw [List.pairwise_map]
  refine List.Pairwise.imp_of_mem (fun {a b} ha hb hab => ?_) (List.pairwise_lt_range (n := n))
  exact h a b hab (List.mem_range.1 hb)
def allW (M : Tab) (t : Nat → ByteArray) (n : Nat) : List ByteArray := wantL shut M t n
theorem allW_inc (M : Tab) {t : Nat → ByteArray} {n : Nat} (h : SrtB t n) : Inc (allW M t n) := by
  unfold allW
  rw [wantL_filter]
  exact (inc_range h).filter _
def cuG (U : Lay) (M : Tab) (W : List ByteArray) (g : Nat) : Cu := if g = 0 then openCu U M.n else { openCu U M.n with bg := true, la := W.getD (g - 1) ByteArray.empty }
theorem filter_parts {A B : List ByteArray} {a : ByteArray} (h : Inc (A ++ a :: B)) : (A ++ a :: B).filter (fun s => less a s) = B := by
  unfold Inc at h
  rw [List.pairwise_append, List.pairwise_cons] at h
  obtain ⟨_, ⟨h1, _⟩, h2⟩ := h
  rw [List.filter_append, List.filter_cons, less_irrefl]
  have e1 : A.filter (fun s => less a s) = [] := by
    rw [List.filter_eq_nil_iff]
    intro x hx
    have := less_asymm (h2 x hx a (by simp))
    simp [this]
  have e2 : B.filter (fun s => less a s) = B := by
    rw [List.filter_eq_self]
    exact fun x hx => h1 x hx
  simp only [Bool.false_eq_true, if_false]
  rw [e1, e2, List.nil_append]
theorem filter_behind {W : List ByteArray} (h : Inc W) {g : Nat} (hg : g < W.length) : W.filter (fun s => less (W[g]) s) = W.drop (g + 1) := by
  have e : W.take g ++ W[g] :: W.drop (g + 1) = W := by rw [← List.drop_eq_getElem_cons hg, List.take_append_drop]
  have h' : Inc (W.take g ++ W[g] :: W.drop (g + 1)) := by rw [e]; exact h
  have := filter_parts h'
  rw [e] at this
  exact this
theorem want_behind {U : Lay} {M : Tab} {t : Nat → ByteArray} {n : Nat} (h : SrtB t n) {g : Nat} (hg : g ≤ (allW M t n).length) : wantL (cuG U M (allW M t n) g) M t n = (allW M t n).drop g := by
  by_cases h0 : g = 0
  · subst h0
    rw [List.drop_zero]
    unfold cuG allW
    rw [if_pos rfl]
    rw [wantL_filter, wantL_filter]
    congr 1
  · obtain ⟨j, rfl⟩ : ∃ j, g = j + 1 := ⟨g - 1, by omega⟩
    have hj : j < (allW M t n).length := by omega
    rw [← filter_behind (allW_inc M h) hj]
    unfold cuG
    rw [if_neg h0, Nat.add_sub_cancel, List.getD_eq_getElem?_getD, List.getElem?_eq_getElem hj]
    generalize hla : (allW M t n)[j] = la
    unfold allW
    rw [wantL_filter, wantL_filter, List.filter_filter]
    congr 1
    funext s
    simp [wantB, shut, openCu]
theorem choose_behind {U : Lay} {M : Tab} {t : Nat → ByteArray} {n g l : Nat} (h : SrtB t n) (hg : g ≤ (allW M t n).length) : chooseL (cuG U M (allW M t n) g) M t n l = ((allW M t n).drop g).take l ∧ chooseB (cuG U M (allW M t n) g) M t n l = decide ((allW M t n).length - g ≤ l) := by
  unfold chooseL chooseB
  rw [want_behind h hg, List.length_drop]
  exact ⟨rfl, rfl⟩
def curG (U : Lay) (M : Tab) (W : List ByteArray) (g : Nat) : Nat → Cu := setCu (fun _ => shut) 0 (cuG U M W g)
theorem cuG_parts (U : Lay) (M : Tab) (W : List ByteArray) (g : Nat) : (cuG U M W g).op = true ∧ (cuG U M W g).vA = .slice (some ⟨U.ba, U.oa, none⟩) M.n U.ca ∧ (cuG U M W g).vN = .slice (some ⟨U.bn, U.on, none⟩) M.n U.cn := by
  unfold cuG
  split <;> exact ⟨rfl, rfl, rfl⟩
theorem next_behind (U : Lay) (M : Tab) (W : List ByteArray) {g l : Nat} (hg : g ≤ W.length) : nextC (curG U M W g) 0 ((W.drop g).take l) = curG U M W (g + ((W.drop g).take l).length) := by
  unfold nextC
  have hln : ((W.drop g).take l).length = min l (W.length - g) := by rw [List.length_take, List.length_drop]
  obtain ⟨n, hn⟩ : ∃ n, ((W.drop g).take l).length = n := ⟨_, rfl⟩
  rw [hn] at hln ⊢
  by_cases h0 : n = 0
  · have e : (W.drop g).take l = [] := List.length_eq_zero_iff.1 (by omega)
    rw [e, h0]
    rfl
  · have e : ((W.drop g).take l).getLast? = some (W.getD (g + n - 1) ByteArray.empty) := by
      rw [List.getLast?_eq_getElem?, hn, List.getElem?_take_of_lt (show n - 1 < l by omega), List.getElem?_drop, List.getD_eq_getElem?_getD, show g + n - 1 = g + (n - 1) by omega, List.getElem?_eq_getElem (show g + (n - 1) < W.length by omega)]
      rfl
    rw [e]
    simp only
    funext i
    by_cases ei : i = 0
    · subst ei
      obtain ⟨h1, h2, h3⟩ := cuG_parts U M W g
      have e2 : curG U M W (g + n) 0 = Cu.mk true (.slice (some ⟨U.ba, U.oa, none⟩) M.n U.ca) (.slice (some ⟨U.bn, U.on, none⟩) M.n U.cn) true (W.getD (g + n - 1) ByteArray.empty) := by
        show cuG U M W (g + n) = _
        unfold cuG
        rw [if_neg (by omega)]
        rfl
      rw [e2]
      show Cu.mk (cuG U M W g).op (cuG U M W g).vA (cuG U M W g).vN true _ = _
      rw [h1, h2, h3]
    · unfold curG
      simp only [setCu, if_neg ei]
end Go.Proofs.Ytpngikmcjkjdaab

namespace Go.Proofs.Ytpngikmcjkjdaab
open Go.RowKit
set_option linter.unusedVariables false
set_option linter.unusedSimpArgs false
theorem wpList_app_list {P : Program} (w : World) {ops : Array Oper} {rest : List Oper} {o : Oper} {a : Act} {Q : Exit → Act → World → Prop} (hgd : o.guard = none) (s x : Operand) (t : TypeId)
    (ho : o.op = .call { callee := .builtin .append, args := #[s, x], argTypes := #[t, t] })
    (base base2 : Nat) (e : TypeId) (i : TypeInfo) (z : Value) (bytes : Nat) (ht : P.underlying t = some (.slice e)) (hi : P.info? e = some i) (hz : i.zero = some z)
    (hsize : i.size = 1) (hby : i.bytes = bytes) (hzs : z.cells.size = 1)
    (v : Value) (n : Nat) (xs : List Value) (hs : a.eval s = v) (hown : w.ownsRow base e 1 v n xs)
    (v2 : Value) (m : Nat) (ys : List Value) (hx : a.eval x = v2) (hown2 : w.ownsRow base2 e 1 v2 m ys) (h1 : ∀ u ∈ ys, u.oneCell' = true)
    (h63 : n + m ≤ maxLen) (hbytes : (n + m) * bytes ≤ 140737488355328) (hbase : base ≤ w.heap.size)
    (h : ∀ v' w', w'.ownsRow base e 1 v' (n + m) (xs ++ ys) → w.grownBy w' v.ownBlock →
      wpList P ops Q rest (a.put o.dst v') w') : wpList P ops Q (o :: rest) a w := by
  obtain ⟨ao, cap, rfl, hc⟩ := ownsRow_shape hown2
  have hyl : ys.length = m := by have := hown2.1; omega
  by_cases hm : m = 0
  · subst hm
    obtain rfl : ys = [] := List.eq_nil_of_length_eq_zero hyl
    obtain ⟨so, scap, rfl, _⟩ := ownsRow_shape hown
    refine wpList_plain hgd fun K hK => ?_
    have hsrc : Src P i.size t (.slice ao 0 cap) 0 [] w := by
      cases ao with
      | none => exact Src.ofNil w ht cap
      | some ad => exact Src.ofSlice w ht ad 0 cap [] (by simp) (by simp) (by simp)
    have hle : n ≤ scap := by
      rcases hown.2 with ⟨h1, h2⟩ | ⟨g, c, cur, h1, _, _, h2, _⟩
      · omega
      · simp only [Value.slice.injEq] at h1; omega
    have hrun := run_append_nothing (P := P) w t t o.type e i ht hi so n scap hle (.slice ao 0 cap) hsrc
    unfold Oper.wp execOp
    simp only [ho, resolve, invoke, builtin, Sem.run_bind, Sem.run_pure, Result.andThen_ok, List.map_toArray, List.map_cons, List.map_nil, hs, hx, hrun]
    refine hK _ _ (h _ _ ?_ ⟨rfl, rfl, rfl, Nat.le_refl _, fun _ _ _ => rfl⟩)
    rw [List.append_nil]; exact hown
  · obtain ⟨g, rfl, hcell⟩ := hc (by omega)
    refine wpList_append_fresh w hgd s x t ho base e i z 1 bytes ht hi hz hsize hby hzs (by decide) v n xs hs hown ⟨g, 0, none⟩ m cap ys hx (by omega) ?_ h1 (by omega) h63 hbytes hbase (fun g cap w' h2 h3 _ => h _ _ h2 h3)
    intro j u hu
    have hj : j < m := by rw [← hyl]; exact (List.getElem?_eq_some_iff.1 hu).1
    have := hcell j (by omega)
    rw [show (⟨g, 0, none⟩ : Addr).add j = ⟨g, j, none⟩ by simp [Addr.add]; omega, this, hu]
end Go.Proofs.Ytpngikmcjkjdaab
