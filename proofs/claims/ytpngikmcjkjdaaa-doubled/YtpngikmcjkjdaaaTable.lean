import Derived.Test.YtpngikmcjkjdaaaBuild
import Derived.Deep.RegionLaw
namespace Go.Proofs.Ytpngikmcjkjdaaa
open Go.RowKit
set_option linter.unusedVariables false

theorem wr_small (i : Nat) (h : i ≤ 100) : IntKind.i64.wrap (1 + IntKind.i64.wrap (9 * (i : Int))) = 1 + 9 * (i : Int) := by
  rw [IntKind.wrap_i64, IntKind.wrap_i64]; omega
/-- The right table that raw numbers make. -/
def codeTab (len : Nat) (z : Nat → Int) : Tab where
  n := 1 + pickN (atN len z 0) 6
  acc i := pickN (atN len z (1 + 9 * i)) 2 == 1
  nxt i c := pickN (atN len z (2 + 9 * i + c)) (1 + pickN (atN len z 0) 6)
theorem codeTab_n (len : Nat) (z : Nat → Int) : 1 ≤ (codeTab len z).n ∧ (codeTab len z).n ≤ 6 := by
  have := pickN_lt (atN len z 0) 6 (by omega)
  simp only [codeTab]; omega
theorem codeTab_ok (len : Nat) (z : Nat → Int) : (codeTab len z).Ok := by
  have := codeTab_n len z
  refine ⟨this.1, by omega, fun i c _ _ => ?_⟩
  simp only [codeTab] at this ⊢
  exact pickN_lt _ _ (by omega)

set_option maxRecDepth 20000 in
set_option maxHeartbeats 2000000 in
theorem table_ok (ao : Option Addr) (len cap : Nat) (z : Nat → Int) (w : World) (h : CodeAt w ao len z) :
    Calls Try.prog 7 #[.slice ao len cap] w fun e w' => ∃ V : Lay, e = .returned (.agg #[.slice (some ⟨V.ba, V.oa, none⟩) (codeTab len z).n V.ca, .slice (some ⟨V.bn, V.on, none⟩) (codeTab len z).n V.cn]) ∧
      TabAt w' V (codeTab len z) ∧ Below w.heap.size w w' := by
  obtain ⟨i4, hi4, hz4, hz41, hz42⟩ := info_parts Try.info4
  obtain ⟨i3, hi3, hz3, hz31, hz32⟩ := info_parts Try.info3
  obtain ⟨iR, hiR, hzR, hzR1, hzR2⟩ := info_parts Try.infoR
  have hp6 := pickN_lt (atN len z 0) 6 (by omega)
  have r0 := atN_rng h 0
  go_enter Try.func7, Try.ntmps7
  go_wp2_with fail
  have h0 := h.below (w' := w.alloc (.cells #[.slice none 0 0, .slice none 0 0] 26)) ((Below.refl _ _).alloc (Nat.le_refl _) _)
  refine (at_ok ao len cap z 0 _ h0 (by omega)).mono ?_
  rintro e w1 ⟨rfl, rfl⟩
  simp only [Int.toNat_zero]
  obtain ⟨n1, HN1⟩ : ∃ x, Hid (pickN (atN len z 0) 6 = x) := ⟨_, rfl⟩
  obtain ⟨z0, HZ0⟩ : ∃ x, Hid (atN len z 0 = x) := ⟨_, rfl⟩
  rw [HN1.out] at hp6
  rw [HZ0.out] at r0 ⊢
  go_wp2_with fail
  refine (pick_any z0 6 _ (by omega) (by omega) r0.1 r0.2).mono ?_
  rintro e w1 ⟨rfl, rfl⟩
  have en : pickN z0 (6 : Int).toNat = n1 := by rw [← HZ0.out]; exact HN1.out
  rw [en]
  clear en r0 h0
  go_wp2_with fail
  obtain ⟨W, hW⟩ : ∃ W, W = (w.alloc (.cells #[.slice none 0 0, .slice none 0 0] 26)).alloc (.cells #[.slice none 0 0, .slice none 0 0] 26) := ⟨_, rfl⟩
  have BW : Below w.heap.size w W := by
    rw [hW]; exact ((Below.refl _ _).alloc (Nat.le_refl _) _).alloc (by simp) _
  have hWs : W.heap.size = w.heap.size + 1 + 1 := by rw [hW]; simp
  have b0 : W.heap[w.heap.size]? = some (.cells #[.slice none 0 0, .slice none 0 0] 26 (0, 0)) := by rw [hW]; exact heap_at_old (heap_at_new (by simp))
  have b1 : W.heap[w.heap.size + 1]? = some (.cells #[.slice none 0 0, .slice none 0 0] 26 (0, 0)) := by rw [hW]; exact heap_at_new (by simp)
  rw [← hW]
  clear hW
  go_loopw [5] (fun i' wr => ∃ i : Nat, ∃ va vn R C, i ≤ 1 + n1 ∧ i' = .int .i64 i ∧ BuildMem W (w.heap.size + 1) wr va vn i i (codeTab len z).acc R C (codeTab len z).nxt)
    (fun i' _ => 1 + n1 - (intOf i').toNat)
  case atStart => exact ⟨0, _, _, fun _ => 0, fun _ => 0, by omega, rfl, BuildMem.start (Below.refl _ _) b1⟩
  case round =>
    obtain ⟨i, va, vn, R, C, hi, rfl, hB⟩ := hrel
    have hbw : Below w.heap.size w wr := BW.trans (hB.two.blw.mono (by omega))
    obtain ⟨x0, x1, f0, f1⟩ := cell_two hB.two.blk
    by_cases hlt : i < 1 + n1
    · have hc := h.below hbw
      have r1 := atN_rng h (1 + 9 * i)
      obtain ⟨z1, HZ1⟩ : ∃ x, Hid (atN len z (1 + 9 * i) = x) := ⟨_, rfl⟩
      rw [HZ1.out] at r1
      have hsz := heap_lt hB.two.blk
      obtain ⟨bb, HBB⟩ : ∃ x, Hid ((pickN z1 2 == 1) = x) := ⟨_, rfl⟩
      have hbi : (((pickN z1 2 : Nat) : Int) == 1) = bb := by rw [← HBB.out]; rw [Bool.eq_iff_iff]; simp; omega
      have HBI : Hid ((((pickN z1 2 : Nat) : Int) == 1) = bb) := hbi
      clear hbi
      have HBa : Hid (BuildMem W (w.heap.size + 1) ((wr.alloc (.cells #[.bool (((pickN z1 2 : Nat) : Int) == 1)] 4)).drew) va vn i i (codeTab len z).acc R C (codeTab len z).nxt) := hB.below (((Below.refl _ _).alloc (Nat.le_refl _) _).drew)
      have hna := HBa.out.two.own0
      have HACC : ∀ g cap' w2, w2.ownsRow (w.heap.size + 1 + 1) 4 1 (.slice (some ⟨g, 0, none⟩) (i + 1) cap') (i + 1) (acells (codeTab len z).acc i ++ [.bool (((pickN z1 2 : Nat) : Int) == 1)]) →
          ((wr.alloc (.cells #[.bool (((pickN z1 2 : Nat) : Int) == 1)] 4)).drew).grownBy w2 va.ownBlock → (va.ownBlock = some g ∨ g = wr.heap.size + 1) →
          BuildMem W (w.heap.size + 1) (w2.setCell ⟨w.heap.size + 1, 0, none⟩ (.slice (some ⟨g, 0, none⟩) (i + 1) cap')) (.slice (some ⟨g, 0, none⟩) (i + 1) cap') vn (i + 1) i (codeTab len z).acc R C (codeTab len z).nxt := by
        intro g cap' w2 ho hg hf
        have e : (((pickN z1 2 : Nat) : Int) == 1) = (codeTab len z).acc i := by
          rw [HBI.out, ← HBB.out]; simp only [codeTab]; rw [HZ1.out]
        rw [e] at ho
        refine HBa.out.acc ho hg ?_
        rcases hf with hf | hf
        · exact .inl hf
        · right; rw [hf]; simp
      have HACC' : Hid _ := HACC
      clear HACC
      have HWR : Hid (IntKind.i64.wrap (1 + IntKind.i64.wrap (9 * (i : Int))) = 1 + 9 * (i : Int)) := wr_small i (by omega)
      have HC : Hid (CodeAt wr ao len z) := hc
      have HB : Hid (BuildMem W (w.heap.size + 1) wr va vn i i (codeTab len z).acc R C (codeTab len z).nxt) := hB
      have HH : Hid (CodeAt w ao len z) := h
      clear hB hc
      go_upto_region 6 with fail
      go_cut [27] (fun _ wc => ∃ va', BuildMem W (w.heap.size + 1) wc va' vn (i + 1) i (codeTab len z).acc R C (codeTab len z).nxt)
      case first =>
        go_region_law
          ((first
            | (refine step_append_lies _ (by rfl) _ _ _ (by rfl) (w.heap.size + 1 + 1) 4 i4 (.bool false) 1 1 Try.underlying23 hi4 hz4 hz41 hz42 rfl (by decide) va i (acells (codeTab len z).acc i) (by rfl) hna ⟨wr.heap.size, 0, none⟩ 1 1 [.bool (((pickN z1 2 : Nat) : Int) == 1)] (by rfl) (by rfl) (cell_one_new _ _ _) (by intro u hu; simp at hu; subst hu; rfl) (by decide) (by unfold maxLen; omega) (by omega) (by simp; omega) (wr.heap.size + 1) (by simp) ?_; intro g cap' w2 hown hgr hfr hlt2; obtain ⟨f0', f1', f2', f3'⟩ := cell_two (HBa.out.two.grown0 hgr); have HFR : Hid _ := hfr; clear hfr)
            | (go_simp; go_at_call 19; rw [HWR.out]; refine (at_ok ao len cap z (1 + 9 * (i : Int)) _ (by exact HC.out.below ((Below.refl _ _).drew)) (by omega)).mono ?_; rw [show (1 + 9 * (i : Int)).toNat = 1 + 9 * i by omega, HZ1.out]; rintro e w' ⟨rfl, rfl⟩)
            | (go_simp; go_at_call 17; refine (pick_any z1 2 _ (by omega) (by omega) r1.1 r1.2).mono ?_; rintro e w' ⟨rfl, rfl⟩)))
        all_goals go_wp2_with fail
        all_goals go_meet
        all_goals exact ⟨_, HACC'.out g cap' w2 hown hgr HFR.out⟩
      case rest =>
        obtain ⟨va', hB'⟩ := hcut
        clear HACC' HBa hna HB HBI HBB HWR HZ1 r1 x0 x1 f0 f1 hbw HC
        go_wp2_with fail
        go_loopw [6, 7] (fun vr c' wi => ∃ c : Nat, c ≤ 8 ∧ c' = .int .i64 c ∧ BuildMem W (w.heap.size + 1) wi va' vn (i + 1) i (codeTab len z).acc R C (codeTab len z).nxt ∧
            wi.ownsRow (w.heap.size + 1 + 1) 3 1 vr c (icells ((codeTab len z).nxt i) c) ∧ ∀ j, j < i → vr.ownBlock ≠ some (R j))
          (fun _ c' _ => 8 - (intOf c').toNat)
        case atStart => exact ⟨0, by omega, rfl, hB', World.ownsRow_nil _ _ _ _, by intro j _ h; simp [Value.ownBlock] at h⟩
        case round =>
          obtain ⟨c, hc, rfl, hBi, hr, hd⟩ := hrel
          have hbw : Below w.heap.size w wr := BW.trans (hBi.two.blw.mono (by omega))
          have hcd := HH.out.below hbw
          have hsz := heap_lt hBi.two.blk
          by_cases hl8 : c < 8
          · have r2 := atN_rng hcd (2 + 9 * i + c)
            obtain ⟨z2, HZ2⟩ : ∃ x, Hid (atN len z (2 + 9 * i + c) = x) := ⟨_, rfl⟩
            rw [HZ2.out] at r2
            obtain ⟨pv, HPV⟩ : ∃ x, Hid (pickN z2 (1 + n1) = x) := ⟨_, rfl⟩
            have hpv : pv < 1 + n1 := by rw [← HPV.out]; exact pickN_lt _ _ (by omega)
            have HX : Hid ((codeTab len z).nxt i c = pv) := by
              unfold Hid; simp only [codeTab]; rw [HZ2.out, HN1.out]; exact HPV.out
            have HBi : Hid (BuildMem W (w.heap.size + 1) (wr.alloc (.cells #[.int .i64 (pv : Int)] 3)) va' vn (i + 1) i (codeTab len z).acc R C (codeTab len z).nxt) := hBi.below ((Below.refl _ _).alloc (Nat.le_refl _) _)
            have HD : Hid (∀ j, j < i → (u6 : Value).ownBlock ≠ some (R j)) := hd
            have hna := hr.alloc (.cells #[.int .i64 (pv : Int)] 3)
            have HRO : Hid (∀ j, j < i → R j < wr.heap.size) := fun j hj => ((hBi.rows j hj).lt (R j) rfl).2
            have HCD : Hid (CodeAt wr ao len z) := hcd
            clear hBi hd hr hcd hbw
            go_wp2_with fail
            refine (at_ok ao len cap z _ _ HCD.out (by omega)).mono ?_
            rw [show (2 + 9 * (i : Int) + (c : Int)).toNat = 2 + 9 * i + c by omega, HZ2.out]
            rintro e w' ⟨rfl, hw'⟩
            obtain rfl : wr = w' := hw'.symm
            go_wp2_with fail
            refine (pick_any z2 _ _ (by omega) (by omega) r2.1 r2.2).mono ?_
            rw [show (1 + (n1 : Int)).toNat = 1 + n1 by omega, HPV.out]
            rintro e w' ⟨rfl, hw'⟩
            obtain rfl : wr = w' := hw'.symm
            go_wp2_with (at_builtin; refine wpList_append_fresh _ rfl _ _ 22 rfl (w.heap.size + 1 + 1) 3 i3 (.int .i64 0) 1 8 Try.underlying22 hi3 hz3 hz31 hz32 rfl (by decide) _ c (icells ((codeTab len z).nxt i) c) rfl hna ⟨wr.heap.size, 0, none⟩ 1 1 [.int .i64 (pv : Int)] rfl rfl (cell_one_new _ _ _) (by intro u hu; simp at hu; subst hu; rfl) (by decide) (by unfold maxLen; omega) (by omega) (by simp; omega) ?_; intro g cap2 w2 hown hgr hfr; have HO : Hid _ := hown; have HG : Hid _ := hgr; have HF : Hid _ := hfr; clear hown hgr hfr)
            go_roundw
            case rel =>
              have ho := HO.out
              rw [show icells ((codeTab len z).nxt i) c ++ [.int .i64 (pv : Int)] = icells ((codeTab len z).nxt i) (c + 1) by rw [icells_succ, HX.out]] at ho
              refine ⟨c + 1, by omega, by go_num, HBi.out.grown hna HD.out HG.out, ho, ?_⟩
              intro j hj e
              simp only [Value.ownBlock, Option.some.injEq] at e
              rcases HF.out with h' | h'
              · exact HD.out j hj (by subst e; exact h')
              · have := HRO.out j hj; simp at h'; omega
            case measure => simp [intOf]; omega
          · have he : c = 8 := by omega
            subst he
            obtain ⟨ar, cr, rfl, har⟩ := ownsRow_shape hr
            obtain ⟨gr, rfl, _⟩ := har (by omega)
            obtain ⟨y0, y1, _, _⟩ := cell_two hBi.two.blk
            have HBi : Hid (BuildMem W (w.heap.size + 1) (wr.alloc (.cells #[.slice (some ⟨gr, 0, none⟩) 8 cr] 22)) va' vn (i + 1) i (codeTab len z).acc R C (codeTab len z).nxt) := hBi.below ((Below.refl _ _).alloc (Nat.le_refl _) _)
            have hna := HBi.out.two.own1
            have HR : Hid ((wr.alloc (.cells #[.slice (some ⟨gr, 0, none⟩) 8 cr] 22)).ownsRow (w.heap.size + 1 + 1) 3 1 (.slice (some ⟨gr, 0, none⟩) 8 cr) 8 (icells ((codeTab len z).nxt i) 8)) := hr.alloc _
            clear hBi hd hr hcd hbw har
            go_wp2_with (at_builtin; refine wpList_append_fresh _ rfl _ _ 24 rfl (w.heap.size + 1 + 1) 22 iR (.slice none 0 0) 1 24 Try.underlying24 hiR hzR hzR1 hzR2 rfl (by decide) _ i (scells R C i) rfl hna ⟨wr.heap.size, 0, none⟩ 1 1 [.slice (some ⟨gr, 0, none⟩) 8 cr] rfl rfl (cell_one_new _ _ _) (by intro u hu; simp at hu; subst hu; rfl) (by decide) (by unfold maxLen; omega) (by omega) (by simp; omega) ?_; intro g cap2 w2 hown hgr hfr; obtain ⟨f0', f1', f2', f3'⟩ := cell_two (HBi.out.two.grown1 hgr); have HO : Hid _ := hown; have HG : Hid _ := hgr; have HF : Hid _ := hfr; clear hown hgr hfr)
            go_roundw
            case rel =>
              exact ⟨i + 1, _, _, _, _, by omega, by go_num, HBi.out.nxt HR.out HO.out HG.out HF.out⟩
            case measure => simp [intOf]; omega
    · have he : i = 1 + n1 := by omega
      subst he
      have hN : (codeTab len z).n = 1 + n1 := by simp only [codeTab]; rw [HN1.out]
      obtain ⟨V, rfl, rfl, hT, hF⟩ := hB.done (N := codeTab len z) (by omega) hN (fun _ _ => rfl) (fun _ _ _ _ => rfl)
      have hq : wr.heap[w.heap.size]? = some (.cells #[.slice none 0 0, .slice none 0 0] 26 (0, 0)) := (hB.two.blw.block _ (by omega)).trans b0
      obtain ⟨q0, q1, p0, p1⟩ := cell_two hq
      have HT : Hid (TabAt wr V (codeTab len z)) := hT
      have HB : Hid _ := hbw
      have HN : Hid ((codeTab len z).n = 1 + n1) := hN
      clear hB hT hN h
      go_wp2_with fail
      obtain ⟨r1, r2, r3⟩ := res_two (u := .slice (some ⟨V.ba, V.oa, none⟩) (1 + n1) V.ca) (v := .slice (some ⟨V.bn, V.on, none⟩) (1 + n1) V.cn) hq
      refine bodyPost_ret (v := .agg #[.slice (some ⟨V.ba, V.oa, none⟩) (1 + n1) V.ca, .slice (some ⟨V.bn, V.on, none⟩) (1 + n1) V.cn]) (by simp [results, Try.results7, go_sem, r1, r2]) rfl ?_
      have hF' : V.From (w.heap.size + 1 + 1) (codeTab len z).n := by rw [HN.out]; exact hF
      exact ⟨V, by rw [HN.out], HT.out.res hF' (by omega) _ _, below_res HB.out (Nat.le_refl _) _ _⟩
end Go.Proofs.Ytpngikmcjkjdaaa
