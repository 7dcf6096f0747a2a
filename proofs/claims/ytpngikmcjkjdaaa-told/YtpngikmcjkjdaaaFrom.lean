import Derived.Test.YtpngikmcjkjdaaaSided
namespace Go.Proofs.Ytpngikmcjkjdaaa
open Go.RowKit
set_option linter.unusedVariables false

def swN (i s : Nat) : Nat := if i = 0 then s else if i = s then 0 else i
theorem swN_swN (i s : Nat) : swN (swN i s) s = i := by
  unfold swN
  by_cases h0 : i = 0
  · subst h0; by_cases hs : s = 0
    · simp [hs]
    · simp [hs]
  · by_cases hs : i = s
    · subst hs; simp [h0]
    · simp [h0, hs]
theorem swN_lt {i s n : Nat} (hi : i < n) (hs : s < n) : swN i s < n := by
  unfold swN
  split
  · exact hs
  · split <;> omega
/-- The same table, read from another state on. -/
def swTab (M : Tab) (s : Nat) : Tab := ⟨M.n, fun i => M.acc (swN i s), fun i c => swN (M.nxt (swN i s) c) s⟩
theorem swTab_ok {M : Tab} (h : M.Ok) {s : Nat} (hs : s < M.n) : (swTab M s).Ok := ⟨h.lo, h.hi, fun i c hi hc => swN_lt (h.nx _ c (swN_lt hi hs) hc) hs⟩
theorem swTab_read (M : Tab) (s : Nat) (x : List Nat) : ∀ i, (swTab M s).read i x = swN (M.read (swN i s) x) s := by
  induction x with
  | nil => intro i; exact (swN_swN i s).symm
  | cons c x ih =>
    intro i
    simp only [Tab.read, List.foldl_cons] at ih ⊢
    rw [ih]
    simp only [swTab]
    rw [swN_swN]
theorem swTab_accepts (M : Tab) (s : Nat) (x : List Nat) : (swTab M s).accepts x = M.acc (M.read s x) := by
  simp only [Tab.accepts, swTab_read]
  simp only [swTab]
  rw [swN_swN]
  rfl

set_option maxRecDepth 20000 in
set_option maxHeartbeats 400000 in
theorem swapped_ok (i s : Nat) (w : World) : Calls Try.prog 23 #[.int .i64 i, .int .i64 s] w fun e w' => e = .returned (.int .i64 (swN i s)) ∧ w' = w := by
  by_cases h0 : i = 0
  · subst h0
    have e : swN 0 s = s := rfl
    rw [e]
    go_enter Try.func23, Try.ntmps23
    go_wp2
    go_ret
    exact ⟨rfl, rfl⟩
  · have hb : ((i : Int) == 0) = false := by simp; omega
    by_cases hs : i = s
    · subst hs
      have e : swN i i = 0 := by simp [swN, h0]
      have hb2 : ((i : Int) == (i : Int)) = true := by simp
      rw [e]
      clear h0
      go_enter Try.func23, Try.ntmps23
      go_wp2
      go_ret
      exact ⟨rfl, rfl⟩
    · have e : swN i s = i := by simp [swN, h0, hs]
      have hb2 : ((i : Int) == (s : Int)) = false := by simp; omega
      rw [e]
      clear h0 hs
      go_enter Try.func23, Try.ntmps23
      go_wp2
      go_ret
      exact ⟨rfl, rfl⟩

set_option maxRecDepth 20000 in
set_option maxHeartbeats 2000000 in
theorem from_ok (V : Lay) (M : Tab) (s : Nat) (w : World) (hM : M.Ok) (hV : TabAt w V M) (hs : s < M.n) :
    Calls Try.prog 14 #[.agg #[.slice (some ⟨V.ba, V.oa, none⟩) M.n V.ca, .slice (some ⟨V.bn, V.on, none⟩) M.n V.cn], .int .i64 s] w
      fun e w' => ∃ U : Lay, e = .returned (.agg #[.slice (some ⟨U.ba, U.oa, none⟩) M.n U.ca, .slice (some ⟨U.bn, U.on, none⟩) M.n U.cn]) ∧ TabAt w' U (swTab M s) ∧ U.From w.heap.size M.n ∧ Below w.heap.size w w' := by
  obtain ⟨i4, hi4, hz4, hz41, hz42⟩ := info_parts Try.info4
  obtain ⟨i3, hi3, hz3, hz31, hz32⟩ := info_parts Try.info3
  obtain ⟨iR, hiR, hzR, hzR1, hzR2⟩ := info_parts Try.infoR
  have l1 := hM.lo
  have l2 := hM.hi
  obtain ⟨W, hW⟩ : ∃ W, W = ((w.alloc (.cells #[.slice (some ⟨V.ba, V.oa, none⟩) M.n V.ca, .slice (some ⟨V.bn, V.on, none⟩) M.n V.cn] 26)).alloc (.cells #[.slice none 0 0, .slice none 0 0] 26)).alloc (.cells #[.slice none 0 0, .slice none 0 0] 26) := ⟨_, rfl⟩
  have BW : Below w.heap.size w W := by
    rw [hW]; exact (((Below.refl _ _).alloc (Nat.le_refl _) _).alloc (by simp) _).alloc (by simp; omega) _
  have hWs : W.heap.size = w.heap.size + 1 + 1 + 1 := by rw [hW]; simp
  have b0 : W.heap[w.heap.size]? = some (.cells #[.slice (some ⟨V.ba, V.oa, none⟩) M.n V.ca, .slice (some ⟨V.bn, V.on, none⟩) M.n V.cn] 26 (0, 0)) := by rw [hW]; exact heap_at_old (heap_at_old (heap_at_new (by simp)))
  have b1 : W.heap[w.heap.size + 1]? = some (.cells #[.slice none 0 0, .slice none 0 0] 26 (0, 0)) := by rw [hW]; exact heap_at_old (heap_at_new (by simp))
  have b2 : W.heap[w.heap.size + 1 + 1]? = some (.cells #[.slice none 0 0, .slice none 0 0] 26 (0, 0)) := by rw [hW]; exact heap_at_new (by simp)
  go_enter Try.func14, Try.ntmps14
  go_wp2_with fail
  rw [← hW]
  clear hW
  go_loopw [6] (fun i' wr => ∃ i : Nat, ∃ va vn R C, i ≤ M.n ∧ i' = .int .i64 i ∧ BuildMem W (w.heap.size + 1 + 1) wr va vn i i (swTab M s).acc R C (swTab M s).nxt)
    (fun i' _ => M.n - (intOf i').toNat)
  case atStart => exact ⟨0, _, _, fun _ => 0, fun _ => 0, by omega, rfl, BuildMem.start (Below.refl _ _) b2⟩
  case round =>
    obtain ⟨i, va, vn, R, C, hi, rfl, hB⟩ := hrel
    have hbw : Below w.heap.size w wr := BW.trans (hB.two.blw.mono (by omega))
    have hbW := hB.two.blw
    obtain ⟨y0, y1, _, _⟩ := cell_two ((hbW.block _ (by omega)).trans b0)
    obtain ⟨x0, x1, f0, f1⟩ := cell_two hB.two.blk
    have hsz := heap_lt hB.two.blk
    by_cases hlt : i < M.n
    · obtain ⟨k, HK⟩ : ∃ k, Hid (swN i s = k) := ⟨_, rfl⟩
      have hkn : k < M.n := by rw [← HK.out]; exact swN_lt hlt hs
      have z0 := (hV.below hbw).acc k hkn
      obtain ⟨bb, HBB⟩ : ∃ x, Hid (M.acc k = x) := ⟨_, rfl⟩
      rw [HBB.out] at z0
      have HBa : Hid (BuildMem W (w.heap.size + 1 + 1) ((wr.alloc (.cells #[.bool bb] 4)).drew) va vn i i (swTab M s).acc R C (swTab M s).nxt) := hB.below (((Below.refl _ _).alloc (Nat.le_refl _) _).drew)
      have hna := HBa.out.two.own0
      have HACC : Hid (∀ g cap' w2, w2.ownsRow (w.heap.size + 1 + 1 + 1) 4 1 (.slice (some ⟨g, 0, none⟩) (i + 1) cap') (i + 1) (acells (swTab M s).acc i ++ [.bool bb]) →
          ((wr.alloc (.cells #[.bool bb] 4)).drew).grownBy w2 va.ownBlock → (va.ownBlock = some g ∨ g = wr.heap.size + 1) →
          BuildMem W (w.heap.size + 1 + 1) (w2.setCell ⟨w.heap.size + 1 + 1, 0, none⟩ (.slice (some ⟨g, 0, none⟩) (i + 1) cap')) (.slice (some ⟨g, 0, none⟩) (i + 1) cap') vn (i + 1) i (swTab M s).acc R C (swTab M s).nxt) := by
        intro g cap' w2 ho hg hf
        have e : bb = (swTab M s).acc i := by simp only [swTab]; rw [HK.out]; exact HBB.out.symm
        rw [e] at ho
        refine HBa.out.acc ho hg ?_
        rcases hf with hf | hf
        · exact .inl hf
        · right; rw [hf]; simp
      have HV : Hid (TabAt w V M) := hV
      clear hB
      go_wp2_with fail
      refine (swapped_ok i s wr).mono ?_
      rw [HK.out]
      rintro e w' ⟨rfl, hw'⟩
      obtain rfl : wr = w' := hw'.symm
      go_upto_region 6 with fail
      go_cut [28] (fun _ wc => ∃ va', BuildMem W (w.heap.size + 1 + 1) wc va' vn (i + 1) i (swTab M s).acc R C (swTab M s).nxt)
      case first =>
        go_region_law
          ((refine step_append_lies _ (by rfl) _ _ _ (by rfl) (w.heap.size + 1 + 1 + 1) 4 i4 (.bool false) 1 1 Try.underlying23 hi4 hz4 hz41 hz42 rfl (by decide) va i (acells (swTab M s).acc i) (by rfl) hna ⟨wr.heap.size, 0, none⟩ 1 1 [.bool bb] (by rfl) (by rfl) (cell_one_new _ _ _) (by intro u hu; simp at hu; subst hu; rfl) (by decide) (by unfold maxLen; omega) (by omega) (by simp; omega) (wr.heap.size + 1) (by simp) ?_; intro g cap' w2 hown hgr hfr hlt2; obtain ⟨f0', f1', f2', f3'⟩ := cell_two (HBa.out.two.grown0 hgr); have HFR : Hid _ := hfr; clear hfr))
        all_goals go_wp2_with fail
        all_goals go_meet
        all_goals exact ⟨_, HACC.out g cap' w2 hown hgr HFR.out⟩
      case rest =>
        obtain ⟨va', hB'⟩ := hcut
        clear HACC HBa hna x0 x1 f0 f1 hbw hbW y0 y1 z0
        go_wp2_with fail
        go_loopw [8, 9] (fun vr c' wi => ∃ c : Nat, c ≤ 8 ∧ c' = .int .i64 c ∧ BuildMem W (w.heap.size + 1 + 1) wi va' vn (i + 1) i (swTab M s).acc R C (swTab M s).nxt ∧
            wi.ownsRow (w.heap.size + 1 + 1 + 1) 3 1 vr c (icells ((swTab M s).nxt i) c) ∧ ∀ j, j < i → vr.ownBlock ≠ some (R j))
          (fun _ c' _ => 8 - (intOf c').toNat)
        case atStart => exact ⟨0, by omega, rfl, hB', World.ownsRow_nil _ _ _ _, by intro j _ h; simp [Value.ownBlock] at h⟩
        case round =>
          obtain ⟨c, hc, rfl, hBi, hr, hd⟩ := hrel
          have hbw : Below w.heap.size w wr := BW.trans (hBi.two.blw.mono (by omega))
          obtain ⟨y0, y1, _, _⟩ := cell_two ((hBi.two.blw.block _ (by omega)).trans b0)
          have hsz := heap_lt hBi.two.blk
          by_cases hl8 : c < 8
          · have z1 := (HV.out.below hbw).row k hkn
            have z2 := (HV.out.below hbw).cel k c hkn hl8
            have hnx := hM.nx k c hkn hl8
            obtain ⟨nv, HNV⟩ : ∃ x, Hid (M.nxt k c = x) := ⟨_, rfl⟩
            rw [HNV.out] at z2 hnx
            obtain ⟨pv, HPV⟩ : ∃ x, Hid (swN nv s = x) := ⟨_, rfl⟩
            have HX : Hid ((swTab M s).nxt i c = pv) := by
              unfold Hid; simp only [swTab]; rw [HK.out, HNV.out]; exact HPV.out
            have HBi : Hid (BuildMem W (w.heap.size + 1 + 1) (wr.alloc (.cells #[.int .i64 (pv : Int)] 3)) va' vn (i + 1) i (swTab M s).acc R C (swTab M s).nxt) := hBi.below ((Below.refl _ _).alloc (Nat.le_refl _) _)
            have HD : Hid (∀ j, j < i → (u8 : Value).ownBlock ≠ some (R j)) := hd
            have hna := hr.alloc (.cells #[.int .i64 (pv : Int)] 3)
            have HRO : Hid (∀ j, j < i → R j < wr.heap.size) := fun j hj => ((hBi.rows j hj).lt (R j) rfl).2
            clear hBi hd hr hbw
            go_wp2_with fail
            refine (swapped_ok nv s wr).mono ?_
            rw [HPV.out]
            rintro e w' ⟨rfl, hw'⟩
            obtain rfl : wr = w' := hw'.symm
            go_wp2_with (at_builtin; refine wpList_append_fresh _ rfl _ _ 22 rfl (w.heap.size + 1 + 1 + 1) 3 i3 (.int .i64 0) 1 8 Try.underlying22 hi3 hz3 hz31 hz32 rfl (by decide) _ c (icells ((swTab M s).nxt i) c) rfl hna ⟨wr.heap.size, 0, none⟩ 1 1 [.int .i64 (pv : Int)] rfl rfl (cell_one_new _ _ _) (by intro u hu; simp at hu; subst hu; rfl) (by decide) (by unfold maxLen; omega) (by omega) (by simp; omega) ?_; intro g cap2 w2 hown hgr hfr; have HO : Hid _ := hown; have HG : Hid _ := hgr; have HF : Hid _ := hfr; clear hown hgr hfr)
            go_roundw
            case rel =>
              have ho := HO.out
              rw [show icells ((swTab M s).nxt i) c ++ [.int .i64 (pv : Int)] = icells ((swTab M s).nxt i) (c + 1) by rw [icells_succ, HX.out]] at ho
              refine ⟨c + 1, by omega, by go_num, HBi.out.grown hna HD.out HG.out, ho, ?_⟩
              intro j hj e
              simp only [Value.ownBlock, Option.some.injEq] at e
              rcases HF.out with h' | h'
              · exact HD.out j hj (by subst e; exact h')
              · have := HRO.out j hj; simp at h'; omega
            case measure => simp [intOf]; omega
          · have he : c = 8 := by omega
            subst he
            obtain ⟨ar, cr, rfl, har⟩ := ownsRow_shape hr
            obtain ⟨gr, rfl, _⟩ := har (by omega)
            obtain ⟨y2, y3, _, _⟩ := cell_two hBi.two.blk
            have HBi : Hid (BuildMem W (w.heap.size + 1 + 1) (wr.alloc (.cells #[.slice (some ⟨gr, 0, none⟩) 8 cr] 22)) va' vn (i + 1) i (swTab M s).acc R C (swTab M s).nxt) := hBi.below ((Below.refl _ _).alloc (Nat.le_refl _) _)
            have hna := HBi.out.two.own1
            have HR : Hid ((wr.alloc (.cells #[.slice (some ⟨gr, 0, none⟩) 8 cr] 22)).ownsRow (w.heap.size + 1 + 1 + 1) 3 1 (.slice (some ⟨gr, 0, none⟩) 8 cr) 8 (icells ((swTab M s).nxt i) 8)) := hr.alloc _
            clear hBi hd hr hbw har
            go_wp2_with (at_builtin; refine wpList_append_fresh _ rfl _ _ 24 rfl (w.heap.size + 1 + 1 + 1) 22 iR (.slice none 0 0) 1 24 Try.underlying24 hiR hzR hzR1 hzR2 rfl (by decide) _ i (scells R C i) rfl hna ⟨wr.heap.size, 0, none⟩ 1 1 [.slice (some ⟨gr, 0, none⟩) 8 cr] rfl rfl (cell_one_new _ _ _) (by intro u hu; simp at hu; subst hu; rfl) (by decide) (by unfold maxLen; omega) (by omega) (by simp; omega) ?_; intro g cap2 w2 hown hgr hfr; obtain ⟨f0', f1', f2', f3'⟩ := cell_two (HBi.out.two.grown1 hgr); have HO : Hid _ := hown; have HG : Hid _ := hgr; have HF : Hid _ := hfr; clear hown hgr hfr)
            go_roundw
            case rel =>
              exact ⟨i + 1, _, _, _, _, by omega, by go_num, HBi.out.nxt HR.out HO.out HG.out HF.out⟩
            case measure => simp [intOf]; omega
    · have he : i = M.n := by omega
      subst he
      obtain ⟨U, rfl, rfl, hT, hF⟩ := hB.done (N := swTab M s) (by omega) rfl (fun _ _ => rfl) (fun _ _ _ _ => rfl)
      have hq : wr.heap[w.heap.size + 1]? = some (.cells #[.slice none 0 0, .slice none 0 0] 26 (0, 0)) := (hB.two.blw.block _ (by omega)).trans b1
      obtain ⟨q0, q1, p0, p1⟩ := cell_two hq
      have HT : Hid (TabAt wr U (swTab M s)) := hT
      have HB : Hid _ := hbw
      clear hB hT hV hbW
      go_wp2_with fail
      obtain ⟨r1, r2, r3⟩ := res_two (u := .slice (some ⟨U.ba, U.oa, none⟩) M.n U.ca) (v := .slice (some ⟨U.bn, U.on, none⟩) M.n U.cn) hq
      refine bodyPost_ret (v := .agg #[.slice (some ⟨U.ba, U.oa, none⟩) M.n U.ca, .slice (some ⟨U.bn, U.on, none⟩) M.n U.cn]) (by simp [results, Try.results14, go_sem, r1, r2]) rfl ?_
      exact ⟨U, rfl, HT.out.res (N := w.heap.size + 1 + 1 + 1) hF (by omega) _ _, hF.mono (by omega), below_res HB.out (by omega) _ _⟩
end Go.Proofs.Ytpngikmcjkjdaaa
