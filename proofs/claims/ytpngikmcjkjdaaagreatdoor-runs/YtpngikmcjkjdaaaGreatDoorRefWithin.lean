import Derived.Test.YtpngikmcjkjdaaaGreatDoorFirst
import Derived.Test.YtpngikmcjkjdaaaGreatDoorRefTab
import Derived.Test.YtpngikmcjkjdaaaGreatDoorRaw
namespace Go.Proofs.YtpngikmcjkjdaaaGreatDoor
open Go.RowKit
set_option linter.unusedVariables false

def anyTo (f : Nat → Bool) : Nat → Bool
  | 0 => false
  | c + 1 => anyTo f c || f c
theorem anyTo_iff (f : Nat → Bool) (k : Nat) : anyTo f k = true ↔ ∃ c, c < k ∧ f c = true := by
  induction k with
  | zero => simp [anyTo]
  | succ k ih =>
    simp only [anyTo, Bool.or_eq_true, ih]
    constructor
    · rintro (⟨c, hc, h⟩ | h)
      · exact ⟨c, by omega, h⟩
      · exact ⟨k, by omega, h⟩
    · rintro ⟨c, hc, h⟩
      by_cases e : c = k
      · subst e; exact .inr h
      · exact .inl ⟨c, by omega, h⟩
/-- Does some text of just k notes lead from a state to one that accepts? -/
def wit (M : Tab) : Nat → Nat → Bool
  | 0, i => M.acc i
  | k + 1, i => anyTo (fun c => wit M k (M.nxt i c)) 8
def wcells (n : Nat) (rb ro rc : Nat → Nat) (k : Nat) : List Value := (List.range k).map fun j => .slice (some ⟨rb j, ro j, none⟩) n (rc j)
theorem wcells_snoc (n : Nat) (rb ro rc : Nat → Nat) (k : Nat) : wcells n rb ro rc k ++ [.slice (some ⟨rb k, ro k, none⟩) n (rc k)] = wcells n rb ro rc (k + 1) := by
  simp [wcells, List.range_succ]
theorem wcells_at (n : Nat) (rb ro rc : Nat → Nat) (k j : Nat) (h : j < k) : (wcells n rb ro rc k)[j]? = some (.slice (some ⟨rb j, ro j, none⟩) n (rc j)) := by
  simp [wcells, h]
theorem wcells_congr {n : Nat} {rb ro rc rb' ro' rc' : Nat → Nat} {k : Nat} (h : ∀ j, j < k → rb j = rb' j ∧ ro j = ro' j ∧ rc j = rc' j) : wcells n rb ro rc k = wcells n rb' ro' rc' k := by
  unfold wcells
  apply List.map_congr_left
  intro j hj
  have := h j (by simpa using hj)
  rw [this.1, this.2.1, this.2.2]
/-- The memory of within: k rows. -/
structure WithinMem (W : World) (B : Nat) (w : World) (vl : Value) (k : Nat) (M : Tab) (rb ro rc : Nat → Nat) : Prop where
  blw : Below B W w
  siz : B ≤ w.heap.size
  own : w.ownsRow B 38 1 vl k (wcells M.n rb ro rc k)
  row : ∀ j, j < k → ∀ i, i < M.n → w.cell? ⟨rb j, ro j + i, none⟩ = some (.bool (wit M j i))
  dis : ∀ j, j < k → vl.ownBlock ≠ some (rb j) ∧ rb j < w.heap.size
section
variable {W : World} {B : Nat} {w w2 : World} {vl : Value} {k : Nat} {M : Tab} {rb ro rc : Nat → Nat}
theorem WithinMem.below (h : WithinMem W B w vl k M rb ro rc) (hb : Below w.heap.size w w2) : WithinMem W B w2 vl k M rb ro rc :=
  ⟨h.blw.trans (hb.mono h.siz), Nat.le_trans h.siz hb.size, ownsRow_below h.own hb, fun j hj i hi => by rw [(bcell hb).1 _ _ (lt_of_cell (h.row j hj i hi))]; exact h.row j hj i hi, fun j hj => ⟨(h.dis j hj).1, Nat.lt_of_lt_of_le (h.dis j hj).2 hb.size⟩⟩
theorem WithinMem.drew (h : WithinMem W B w vl k M rb ro rc) : WithinMem W B w.drew vl k M rb ro rc := h.below ((Below.refl _ _).drew)
/-- A store into a block of its own. -/
theorem WithinMem.set (h : WithinMem W B w vl k M rb ro rc) (a : Addr) (u : Value) (h0 : B ≤ a.block) (h1 : vl.ownBlock ≠ some a.block) (h2 : ∀ j, j < k → rb j ≠ a.block) : WithinMem W B (w.setCell a u) vl k M rb ro rc :=
  ⟨h.blw.setCell h0 u, by have := h.siz; simpa using this, ownsRow_set h.own a u (fun g e he => h1 (by rw [e, he])), fun j hj i hi => by rw [cell_set_other (by exact h2 j hj)]; exact h.row j hj i hi, fun j hj => ⟨(h.dis j hj).1, by have := (h.dis j hj).2; simpa using this⟩⟩
/-- One row more. -/
theorem WithinMem.app (h : WithinMem W B w vl k M rb ro rc) {g cap H : Nat} (hown : w2.ownsRow B 38 1 (.slice (some ⟨g, 0, none⟩) (k + 1) cap) (k + 1) (wcells M.n rb ro rc k ++ [.slice (some ⟨H, 0, none⟩) M.n M.n]))
    (hg : w.grownBy w2 vl.ownBlock) (hf : vl.ownBlock = some g ∨ g = w.heap.size) (hrow : ∀ i, i < M.n → w.cell? ⟨H, i, none⟩ = some (.bool (wit M k i))) (hH : vl.ownBlock ≠ some H) (hHs : H < w.heap.size) :
    WithinMem W B w2 (.slice (some ⟨g, 0, none⟩) (k + 1) cap) (k + 1) M (fun j => if j = k then H else rb j) (fun j => if j = k then 0 else ro j) (fun j => if j = k then M.n else rc j) := by
  have hs := hg.size
  refine ⟨h.blw.grown hg h.siz (fun x e => (h.own.lt x e).1), Nat.le_trans h.siz hs, ?_, fun j hj i hi => ?_, fun j hj => ?_⟩
  · rw [← wcells_snoc]
    simp only [if_true]
    rw [← wcells_congr (rb := rb) (ro := ro) (rc := rc) (fun j hj => by simp [show j ≠ k by omega])]
    exact hown
  · by_cases e : j = k
    · subst e
      simp only [if_true, Nat.zero_add]
      exact hg.cell (hrow i hi) (fun e => hH e.symm)
    · simp only [if_neg e]
      exact hg.cell (h.row j (by omega) i hi) (fun e' => (h.dis j (by omega)).1 e'.symm)
  · by_cases e : j = k
    · subst e
      simp only [if_true, Value.ownBlock, ne_eq, Option.some.injEq]
      refine ⟨fun e => ?_, by omega⟩
      subst e
      rcases hf with hf | hf
      · exact hH hf
      · omega
    · simp only [if_neg e, Value.ownBlock, ne_eq, Option.some.injEq]
      have hd := h.dis j (by omega)
      refine ⟨fun e' => ?_, by omega⟩
      rcases hf with hf | hf
      · exact hd.1 (by rw [hf, e'])
      · omega
end

theorem wrap_pred (m : Nat) (h : m ≤ 1000) : IntKind.i64.wrap ((m : Int) + 1 - 1) = (m : Int) := by rw [IntKind.wrap_i64]; omega

set_option maxRecDepth 20000 in
set_option maxHeartbeats 2000000 in
theorem within_ok (V : Lay) (M : Tab) (w : World) (hM : M.Ok) (hV : TabAt w V M) :
    Calls Tryz.prog 78 #[.agg #[.slice (some ⟨V.ba, V.oa, none⟩) M.n V.ca, .slice (some ⟨V.bn, V.on, none⟩) M.n V.cn]] w
      fun e w' => Below w.heap.size w w' ∧ ∃ (g cap : Nat) (rb ro rc : Nat → Nat), e = .returned (.slice (some ⟨g, 0, none⟩) (M.n + 1) cap) ∧ (∀ j, j ≤ M.n → w'.cell? ⟨g, j, none⟩ = some (.slice (some ⟨rb j, ro j, none⟩) M.n (rc j))) ∧
        ∀ j, j ≤ M.n → ∀ i, i < M.n → w'.cell? ⟨rb j, ro j + i, none⟩ = some (.bool (wit M j i)) := by
  have l1 := hM.lo
  have l2 := hM.hi
  obtain ⟨i0, hi0, hz0, hz1, hz2⟩ := info_parts Tryz.infoB
  have mk1 := run_make_row' (P := Tryz.prog) 38 4 (.bool false) 1 Tryz.underlying38 Tryz.info4 rfl .i64 .i64 M.n (by omega) (by omega)
  obtain ⟨W, hW⟩ : ∃ W, W = w.alloc (.cells #[.slice (some ⟨V.ba, V.oa, none⟩) M.n V.ca, .slice (some ⟨V.bn, V.on, none⟩) M.n V.cn] 41) := ⟨_, rfl⟩
  have BW : Below w.heap.size w W := by rw [hW]; exact (Below.refl _ _).alloc (Nat.le_refl _) _
  have hWs : W.heap.size = w.heap.size + 1 := by rw [hW]; simp
  have b0 : W.heap[w.heap.size]? = some (.cells #[.slice (some ⟨V.ba, V.oa, none⟩) M.n V.ca, .slice (some ⟨V.bn, V.on, none⟩) M.n V.cn] 41 (0, 0)) := by rw [hW]; exact heap_at_new (by simp)
  have hV0 := hV.below BW
  have P0 : WithinMem W (w.heap.size + 1) (W.alloc (.cells #[.slice (some ⟨V.ba, V.oa, none⟩) M.n V.ca] 38)) (.slice (some ⟨w.heap.size + 1, 0, none⟩) 1 1) 1 M (fun _ => V.ba) (fun _ => V.oa) (fun _ => V.ca) := by
    refine ⟨(Below.refl _ _).alloc (by omega) _, by simp; omega, ?_, fun j hj i hi => ?_, fun j hj => ?_⟩
    · have := World.ownsRow_lit (base := w.heap.size + 1) (e := 38) (size := 1) W #[.slice (some ⟨V.ba, V.oa, none⟩) M.n V.ca] 1 (by omega) (by decide) rfl
      rw [hWs] at this
      exact this
    · have : j = 0 := by omega
      subst this
      have hc := hV0.acc i hi
      simp only [wit]
      rw [(bcell ((Below.refl _ _).alloc (Nat.le_refl _) _)).1 _ _ (lt_of_cell hc)]; exact hc
    · have hc := lt_of_cell (hV.acc 0 (by omega))
      simp only [Value.ownBlock, ne_eq, Option.some.injEq]
      exact ⟨by omega, by simp; omega⟩
  go_enter Tryz.func78, Tryz.ntmps78
  go_wp2_with fail
  rw [← hW]
  clear hW
  go_loopw [3, 4] (fun vl k' wr => ∃ m : Nat, ∃ rb ro rc, m ≤ M.n ∧ k' = .int .i64 ((m : Int) + 1) ∧ WithinMem W (w.heap.size + 1) wr vl (m + 1) M rb ro rc)
    (fun _ k' _ => M.n + 1 - (intOf k').toNat)
  case atStart => exact ⟨0, _, _, _, by omega, rfl, P0⟩
  case round =>
    obtain ⟨m, rb, ro, rc, hm, rfl, hP⟩ := hrel
    clear P0
    have hbW := hP.blw
    have hbw : Below w.heap.size w wr := BW.trans (hbW.mono (by omega))
    obtain ⟨x0, x1, _, _⟩ := cell_two ((hbW.block _ (by omega)).trans b0)
    obtain ⟨al, cl, rfl, hal⟩ := ownsRow_shape hP.own
    obtain ⟨gl, rfl, hcl⟩ := hal (by omega)
    by_cases hlt : m < M.n
    · have HP : Hid _ := hP
      clear hP hal hcl
      go_wp2_with fail
      clear mk1
      rename World => wo
      have hso := HP.out.siz
      have HN0 : WithinMem W (w.heap.size + 1) (wo.alloc (.cells (madeCells #[.bool false] M.n) 4)) (.slice (some ⟨gl, 0, none⟩) (m + 1) cl) (m + 1) M rb ro rc := HP.out.below ((Below.refl _ _).alloc (Nat.le_refl _) _)
      have hgl := (HP.out.own.lt gl rfl).2
      go_loopw [6] (fun i' wi => ∃ i : Nat, i ≤ M.n ∧ i' = .int .i64 i ∧ WithinMem W (w.heap.size + 1) wi (.slice (some ⟨gl, 0, none⟩) (m + 1) cl) (m + 1) M rb ro rc ∧
          wi.rowIs wo.heap.size 4 M.n (fun x => .bool (if x < i then wit M (m + 1) x else false)))
        (fun i' _ => M.n - (intOf i').toNat)
      case atStart => exact ⟨0, by omega, rfl, HN0, (madeCells_rowIs (heap_at_new rfl)).congr (fun i _ => by simp)⟩
      case round =>
        clear HN0
        obtain ⟨i, hi, rfl, hPi, hri⟩ := hrel
        have hbWi := hPi.blw
        obtain ⟨x0, x1, _, _⟩ := cell_two ((hbWi.block _ (by omega)).trans b0)
        by_cases hlti : i < M.n
        · have HPi : Hid _ := hPi
          have HRi : Hid (wr.rowIs wo.heap.size 4 M.n (fun x => .bool (if x < i then wit M (m + 1) x else false))) := hri
          clear hPi hri
          go_wp2_with fail
          rename World => wj
          go_loopw [7] (fun c' wi => ∃ c : Nat, c ≤ 8 ∧ c' = .int .i64 c ∧ WithinMem W (w.heap.size + 1) wi (.slice (some ⟨gl, 0, none⟩) (m + 1) cl) (m + 1) M rb ro rc ∧
              wi.rowIs wo.heap.size 4 M.n (fun x => .bool (if x < i then wit M (m + 1) x else if x = i then anyTo (fun c => wit M m (M.nxt i c)) c else false)))
            (fun c' _ => 8 - (intOf c').toNat)
          case atStart =>
            refine ⟨0, by omega, rfl, HPi.out, HRi.out.congr (fun x _ => ?_)⟩
            by_cases h1 : x < i
            · simp [h1]
            · by_cases h2 : x = i
              · simp [h2, anyTo]
              · simp [h1, h2]
          case round =>
            clear HPi HRi hbWi
            obtain ⟨c, hc, rfl, hPc, hrc⟩ := hrel
            have hbWc := hPc.blw
            have hbwc : Below w.heap.size w wr := BW.trans (hbWc.mono (by omega))
            obtain ⟨x0, x1, _, _⟩ := cell_two ((hbWc.block _ (by omega)).trans b0)
            by_cases hl8 : c < 8
            · have y0 := (hV.below hbwc).row i hlti
              have y1 := (hV.below hbwc).cel i c hlti hl8
              have hnx := hM.nx i c hlti hl8
              obtain ⟨q, HQ⟩ : ∃ q, Hid (M.nxt i c = q) := ⟨_, rfl⟩
              rw [HQ.out] at y1 hnx
              have z0 := (hPc.own.cellAt m (by omega)).trans (wcells_at _ _ _ _ _ m (by omega))
              have z1 := hPc.row m (by omega) q hnx
              have r0 := hrc.cell hlti
              have r1 := hrc.frozen i
              simp only [Nat.lt_irrefl, if_false, if_true] at r0
              obtain ⟨cur, HCU⟩ : ∃ x, Hid (anyTo (fun c => wit M m (M.nxt i c)) c = x) := ⟨_, rfl⟩
              obtain ⟨wq, HWQ⟩ : ∃ x, Hid (wit M m q = x) := ⟨_, rfl⟩
              rw [HCU.out] at r0
              rw [HWQ.out] at z1
              have HST : Hid (anyTo (fun c => wit M m (M.nxt i c)) (c + 1) = (cur || wq)) := by
                unfold Hid; simp only [anyTo]; rw [HCU.out, HQ.out, HWQ.out]
              have hwp := wrap_pred m (by omega)
              have HPc : Hid _ := hPc
              have HRc : Hid (wr.rowIs wo.heap.size 4 M.n (fun x => .bool (if x < i then wit M (m + 1) x else if x = i then anyTo (fun c => wit M m (M.nxt i c)) c else false))) := hrc
              have d0 := hPc.dis
              have HD : Hid (∀ j, j < m + 1 → rb j ≠ wo.heap.size) := fun j hj => by have := HP.out.dis j hj; omega
              clear hPc hrc hbWc hbwc d0
              have hfin : ∀ wf : World, Hid (wf = wr.drew) → Hid (WithinMem W (w.heap.size + 1) (wf.setCell ⟨wo.heap.size, i, none⟩ (.bool (cur || wq))) (.slice (some ⟨gl, 0, none⟩) (m + 1) cl) (m + 1) M rb ro rc ∧
                  (wf.setCell ⟨wo.heap.size, i, none⟩ (.bool (cur || wq))).rowIs wo.heap.size 4 M.n (fun x => .bool (if x < i then wit M (m + 1) x else if x = i then anyTo (fun c => wit M m (M.nxt i c)) (c + 1) else false))) := by
                intro wf hwf
                rw [hwf.out]
                refine ⟨HPc.out.drew.set _ _ (by exact hso) (by simp only [Value.ownBlock, ne_eq, Option.some.injEq]; omega) (fun j hj => HD.out j hj), (HRc.out.drew.set i _).congr (fun x _ => ?_)⟩
                by_cases e : x = i
                · subst e; simp only [if_true, Nat.lt_irrefl, if_false]; rw [HST.out]
                · simp [e]
              cases cur
              · cases wq
                · go_wp2_with fail
                  go_region
                  go_wp2
                  go_roundw
                  case rel => exact ⟨c + 1, by omega, by go_num, (hfin _ rfl).out.1, (hfin _ rfl).out.2⟩
                  case measure => simp [intOf]; omega
                · go_wp2_with fail
                  go_region
                  go_wp2
                  go_roundw
                  case rel => exact ⟨c + 1, by omega, by go_num, (hfin _ rfl).out.1, (hfin _ rfl).out.2⟩
                  case measure => simp [intOf]; omega
              · go_wp2_with fail
                go_region
                go_wp2
                go_roundw
                case rel => exact ⟨c + 1, by omega, by go_num, (hfin _ rfl).out.1, (hfin _ rfl).out.2⟩
                case measure => simp [intOf]; omega
            · have he : c = 8 := by omega
              subst he
              have HPc : Hid _ := hPc
              have HRc : Hid (wr.rowIs wo.heap.size 4 M.n (fun x => .bool (if x < i then wit M (m + 1) x else if x = i then anyTo (fun c => wit M m (M.nxt i c)) 8 else false))) := hrc
              clear hPc hrc
              go_wp2_with fail
              go_roundw
              case rel =>
                refine ⟨i + 1, by omega, by go_num, HPc.out, HRc.out.congr (fun x _ => ?_)⟩
                by_cases h1 : x < i
                · simp [h1, show x < i + 1 by omega]
                · by_cases h2 : x = i
                  · subst h2; simp [wit]
                  · simp [h1, h2, show ¬ x < i + 1 by omega]
              case measure => simp [intOf]; omega
        · have he : i = M.n := by omega
          subst he
          have HRi : Hid (wr.rowIs wo.heap.size 4 M.n (fun x => .bool (if x < M.n then wit M (m + 1) x else false))) := hri
          have HPa := hPi.below ((Below.refl _ _).alloc (Nat.le_refl _) (.cells #[.slice (some ⟨wo.heap.size, 0, none⟩) M.n M.n] 38))
          have hna := HPa.own
          have hsi := hPi.siz
          have hbo : w.heap.size + 1 ≤ (wr.alloc (.cells #[.slice (some ⟨wo.heap.size, 0, none⟩) M.n M.n] 38)).heap.size := by simp; omega
          have HPA : Hid _ := HPa
          have hlr := hri.lt
          clear HPa hPi hri
          go_wp2_with (at_builtin; refine wpList_append_fresh _ rfl _ _ 108 rfl (w.heap.size + 1) 38 i0 (.slice none 0 0) 1 24 Tryz.underlying108 hi0 hz0 hz1 hz2 rfl (by decide) _ (m + 1) (wcells M.n rb ro rc (m + 1)) rfl hna ⟨wr.heap.size, 0, none⟩ 1 1 [.slice (some ⟨wo.heap.size, 0, none⟩) M.n M.n] rfl rfl (cell_one_new _ _ _) (by intro u hu; simp at hu; subst hu; rfl) (by decide) (by unfold maxLen; omega) (by omega) hbo ?_; intro g cap w2 hown hgr hfr)
          go_roundw
          case rel =>
            refine ⟨m + 1, _, _, _, by omega, by go_num, HPA.out.app hown hgr hfr (fun x hx => ?_) (by simp only [Value.ownBlock, ne_eq, Option.some.injEq]; omega) (by simp; omega)⟩
            have := (HRi.out.alloc (.cells #[.slice (some ⟨wo.heap.size, 0, none⟩) M.n M.n] 38)).cell hx
            simpa [hx] using this
          case measure => simp [intOf]; omega
    · have he : m = M.n := by omega
      subst he
      have HC : Hid _ := hcl
      have HP : Hid _ := hP
      clear hP hal hcl
      go_wp2_with fail
      go_ret
      refine ⟨hbw, gl, cl, rb, ro, rc, rfl, fun j hj => ?_, fun j hj i hi => HP.out.row j (by omega) i hi⟩
      rw [HC.out j (by omega)]
      exact wcells_at _ _ _ _ _ j (by omega)
end Go.Proofs.YtpngikmcjkjdaaaGreatDoor
