import Derived.Test.YtpngikmcjkjdaaaGreatDoorWide
import Derived.Deep.RegionLaw
import Derived.Deep.AppendLies
namespace Go.Proofs.YtpngikmcjkjdaaaGreatDoor
open Go.RowKit
set_option linter.unusedVariables false

theorem ownBlock_nil : (Value.slice none 0 0).ownBlock = none := rfl

set_option maxRecDepth 20000 in
set_option maxHeartbeats 2000000 in
theorem add_ok (gw base : Nat) (va vn : Value) (k : Nat) (xa xn : List Value) (a : Bool) (r : Nat → Nat) (w : World) (hb : w.heap[gw]? = some (.cells #[va, vn] 169 (0, 0)))
    (h0 : w.ownsRow base 4 1 va k xa) (h1 : w.ownsRow base 174 8 vn k xn) (hlt : gw < base) (hbase : base ≤ w.heap.size) (hk : k ≤ 100000000) :
    Calls Tryz.prog 138 #[.pointer (some ⟨gw, 0, none⟩), .bool a, .agg (row8 r)] w fun e w' => e = .returned (.tuple #[]) ∧
      ∃ va' vn', w'.heap[gw]? = some (.cells #[va', vn'] 169 (0, 0)) ∧ w'.ownsRow base 4 1 va' (k + 1) (xa ++ [.bool a]) ∧ w'.ownsRow base 174 8 vn' (k + 1) (xn ++ (row8 r).toList) ∧
        Touch (fun b => b = gw ∨ va.ownBlock = some b ∨ vn.ownBlock = some b) w w' ∧ (∀ g, va'.ownBlock = some g → va.ownBlock = some g ∨ w.heap.size ≤ g) ∧ (∀ g, vn'.ownBlock = some g → vn.ownBlock = some g ∨ w.heap.size ≤ g) := by
  obtain ⟨i4, hi4, hz4, hz41, hz42⟩ := info_parts Tryz.info4
  obtain ⟨i8, hi8, hz8, hz81, hz82⟩ := info_parts Tryz.infoE
  have hgs := heap_lt hb
  obtain ⟨W, hW⟩ : ∃ W, W = w.alloc (.cells (row8 r) 174) := ⟨_, rfl⟩
  have hWs : w.heap.size + 1 ≤ W.heap.size := by rw [hW]; simp
  have bw : W.heap[gw]? = some (.cells #[va, vn] 169 (0, 0)) := by rw [hW]; exact heap_at_old hb
  have br : W.heap[w.heap.size]? = some (.cells (row8 r) 174 (0, 0)) := by rw [hW]; exact heap_at_new rfl
  have T0 : Touch (fun b => b = gw ∨ va.ownBlock = some b ∨ vn.ownBlock = some b) w W := by rw [hW]; exact (Touch.refl _ _).alloc _
  have o0 : W.ownsRow base 4 1 va k xa := by rw [hW]; exact h0.alloc _
  have o1 : W.ownsRow base 174 8 vn k xn := by rw [hW]; exact h1.alloc _
  obtain ⟨y0, y1, z0, z1⟩ := cell_two bw
  have HX : Hid (W = w.alloc (.cells (row8 r) 174)) := hW
  unfold row8 at hW
  unfold row8
  go_enter Tryz.func138, Tryz.ntmps138
  go_upto_region 1 with fail
  rw [← hW]
  have l0 := fun g e => h0.lt g e
  have l1 := fun g e => h1.lt g e
  clear hW HX hb h0 h1
  have hna := o0.alloc (.cells #[.bool a] 4)
  have hbo : base ≤ (W.alloc (.cells #[.bool a] 4)).heap.size := by simp; omega
  have HG : ∀ g cap w2, w2.ownsRow base 4 1 (.slice (some ⟨g, 0, none⟩) (k + 1) cap) (k + 1) (xa ++ [.bool a]) → (W.alloc (.cells #[.bool a] 4)).grownBy w2 va.ownBlock → (va.ownBlock = some g ∨ g = (W.alloc (.cells #[.bool a] 4)).heap.size) →
      w2.heap[gw]? = some (.cells #[va, vn] 169 (0, 0)) ∧ Hid (Touch (fun b => b = gw ∨ va.ownBlock = some b ∨ vn.ownBlock = some b) w w2 ∧ w2.ownsRow base 174 8 vn k xn ∧ w2.heap[w.heap.size]? = some (.cells (row8 r) 174 (0, 0)) ∧ W.heap.size ≤ w2.heap.size) := by
    intro g cap w2 ho hg hf
    have hsz := hg.size
    simp at hsz
    refine ⟨?_, (T0.alloc _).grown hg (fun k e => .inl (.inr (.inl e))), ?_, ?_, by omega⟩
    · rw [hg.block gw (by simp; omega) (fun e => by have := (l0 gw e.symm).1; omega)]; exact heap_at_old bw
    · refine (o1.alloc _).kept hg ?_
      cases hv : vn.ownBlock with
      | none => exact .inl rfl
      | some x => exact .inr (fun e => own_apart o1 o0 (by decide) x hv e.symm)
    · rw [hg.block w.heap.size (by simp; omega) (fun e => by have h2 := (l0 _ e.symm).2; omega)]; exact heap_at_old br
  clear bw br T0 o0 o1
  have hss : gw < W.heap.size := by omega
  go_upto_region 2 with (at_builtin; refine wpList_append_fresh _ rfl _ _ 38 rfl base 4 i4 (.bool false) 1 1 Tryz.underlying38 hi4 hz4 hz41 hz42 rfl (by decide) _ k xa rfl hna ⟨W.heap.size, 0, none⟩ 1 1 [.bool a] rfl rfl (cell_one_new _ _ _) (by intro u hu; simp at hu; subst hu; rfl) (by decide) (by unfold maxLen; omega) (by omega) hbo ?_; intro g cap w2 hown hgr hfr; obtain ⟨f0, F⟩ := HG g cap w2 hown hgr hfr; obtain ⟨f3, f4, f5, f6⟩ := cell_two f0)
  obtain ⟨F1, F2, F3, F4⟩ := F.out
  obtain ⟨W5, hW5⟩ : ∃ W5, W5 = w2.setCell ⟨gw, 0, none⟩ (.slice (some ⟨g, 0, none⟩) (k + 1) cap) := ⟨_, rfl⟩
  have hW5s : w2.heap.size ≤ W5.heap.size := by rw [hW5]; simp
  have b5 : W5.heap[gw]? = some (.cells #[.slice (some ⟨g, 0, none⟩) (k + 1) cap, vn] 169 (0, 0)) := by rw [hW5]; exact two_set0 f0
  have r5 : W5.heap[w.heap.size]? = some (.cells (row8 r) 174 (0, 0)) := by rw [hW5]; exact heap_set_other F3 (by simp; omega)
  have T5 : Touch (fun b => b = gw ∨ va.ownBlock = some b ∨ vn.ownBlock = some b) w W5 := by rw [hW5]; exact F1.set _ _ (.inl (.inl rfl))
  have o05 : W5.ownsRow base 4 1 (.slice (some ⟨g, 0, none⟩) (k + 1) cap) (k + 1) (xa ++ [.bool a]) := by rw [hW5]; exact ownsRow_setCell_below hown (by simp; omega) _
  have o15 : W5.ownsRow base 174 8 vn k xn := by rw [hW5]; exact ownsRow_setCell_below F2 (by simp; omega) _
  have fa : va.ownBlock = some g ∨ w.heap.size ≤ g := by
    rcases hfr with h | h
    · exact .inl h
    · right; rw [h]; simp; omega
  rw [← hW5]
  clear hW5 f0 f3 f4 f5 f6 F F1 F2 F3 HG hgr hown hfr hna hbo y0 y1 z0 z1
  obtain ⟨y0, y1, z0, z1⟩ := cell_two b5
  have c0 := cell_of_row W5 w.heap.size 0 (row8 r) 174 (0, 0) r5
  have c1 := cell_of_row W5 w.heap.size 1 (row8 r) 174 (0, 0) r5
  have c2 := cell_of_row W5 w.heap.size 2 (row8 r) 174 (0, 0) r5
  have c3 := cell_of_row W5 w.heap.size 3 (row8 r) 174 (0, 0) r5
  have c4 := cell_of_row W5 w.heap.size 4 (row8 r) 174 (0, 0) r5
  have c5 := cell_of_row W5 w.heap.size 5 (row8 r) 174 (0, 0) r5
  have c6 := cell_of_row W5 w.heap.size 6 (row8 r) 174 (0, 0) r5
  have c7 := cell_of_row W5 w.heap.size 7 (row8 r) 174 (0, 0) r5
  simp [row8] at c0 c1 c2 c3 c4 c5 c6 c7
  have hna := o15.alloc (.cells (row8 r) 174)
  have hbo : base ≤ (W5.alloc (.cells (row8 r) 174)).heap.size := by simp; omega
  have hss5 : gw < W5.heap.size := by omega
  have HG : ∀ g' cap' w6, w6.ownsRow base 174 8 (.slice (some ⟨g', 0, none⟩) (k + 1) cap') (k + 1) (xn ++ (row8 r).toList) → (W5.alloc (.cells (row8 r) 174)).grownBy w6 vn.ownBlock → (vn.ownBlock = some g' ∨ g' = (W5.alloc (.cells (row8 r) 174)).heap.size) →
      w6.heap[gw]? = some (.cells #[.slice (some ⟨g, 0, none⟩) (k + 1) cap, vn] 169 (0, 0)) ∧ Hid (Touch (fun b => b = gw ∨ va.ownBlock = some b ∨ vn.ownBlock = some b) w w6 ∧ w6.ownsRow base 4 1 (.slice (some ⟨g, 0, none⟩) (k + 1) cap) (k + 1) (xa ++ [.bool a])) := by
    intro g' cap' w6 ho hg hf
    have hsz := hg.size
    simp at hsz
    refine ⟨?_, (T5.alloc _).grown hg (fun k e => .inl (.inr (.inr e))), ?_⟩
    · rw [hg.block gw (by simp; omega) (fun e => by have := (l1 gw e.symm).1; omega)]; exact heap_at_old b5
    · refine (o05.alloc _).kept hg ?_
      by_cases hv : vn.ownBlock = some g
      · exact absurd (own_apart o15 o05 (by decide) g hv rfl) id
      · exact .inr (fun e => hv e.symm)
  clear b5 r5 T5 o05 o15
  unfold row8 at hna hbo HG
  have HGG : Hid _ := HG
  clear HG
  go_region_law
    ((refine step_append_lies _ (by rfl) _ _ _ (by rfl) base 174 i8 (.agg #[.int .i64 0, .int .i64 0, .int .i64 0, .int .i64 0, .int .i64 0, .int .i64 0, .int .i64 0, .int .i64 0]) 8 64 Tryz.underlying167 hi8 hz8 hz81 hz82 rfl (by decide) vn k xn (by rfl) hna ⟨W5.heap.size, 0, none⟩ 1 1 [.int .i64 ((r 0 : Nat) : Int), .int .i64 ((r 1 : Nat) : Int), .int .i64 ((r 2 : Nat) : Int), .int .i64 ((r 3 : Nat) : Int), .int .i64 ((r 4 : Nat) : Int), .int .i64 ((r 5 : Nat) : Int), .int .i64 ((r 6 : Nat) : Int), .int .i64 ((r 7 : Nat) : Int)] (by rfl) (by rfl) (cells_new _ _ _) (by intro u hu; simp at hu; rcases hu with rfl | rfl | rfl | rfl | rfl | rfl | rfl | rfl <;> rfl) (by decide) (by unfold maxLen; omega) (by omega) (by simp; omega) (W5.heap.size + 1) (by simp) ?_; intro g' cap' w6 hown' hgr' hfr' hlt2; obtain ⟨f0, F⟩ := HGG.out g' cap' w6 hown' ⟨hgr'.os, hgr'.tape, hgr'.output, hgr'.size, hgr'.block⟩ (by simpa using hfr'); obtain ⟨f3, f4, f5, f6⟩ := cell_two f0; have HFR : Hid _ := hfr'; clear hfr'))
  all_goals go_wp2_with fail
  all_goals
    obtain ⟨F1, F2⟩ := F.out
    go_end0
    refine ⟨rfl, .slice (some ⟨g, 0, none⟩) (k + 1) cap, .slice (some ⟨g', 0, none⟩) (k + 1) cap', two_set1 f0, ownsRow_setCell_below F2 (by simp; omega) _, ownsRow_setCell_below hown' (by simp; omega) _, F1.set _ _ (.inl (.inl rfl)), ?_, ?_⟩
    · intro x hx
      simp only [Value.ownBlock, Option.some.injEq] at hx; subst hx; exact fa
    · intro x hx
      simp only [Value.ownBlock, Option.some.injEq] at hx; subst hx
      rcases HFR.out with h | h
      · exact .inl h
      · right; rw [h]; omega
end Go.Proofs.YtpngikmcjkjdaaaGreatDoor
