import Derived.Test.YtpngikmcjkjdaaaGreatDoorMat
import Derived.Test.YtpngikmcjkjdaaaGreatDoorRefTab
import Derived.Test.YtpngikmcjkjdaaaGreatDoorQuotP
import Derived.Deep.QuietTactic
import Derived.BigQuiet
import Derived.Deep.LoopGhost
namespace Go.Proofs.YtpngikmcjkjdaaaGreatDoor
open Go.RowKit
set_option linter.unusedVariables false

structure InvD (M : Tab) (D : Nat → Nat → Bool) : Prop where
  sound : ∀ x y, x < M.n → y < M.n → D x y = true → Apart M x y
  symm : ∀ x y, x < M.n → y < M.n → D x y = D y x
  base : ∀ x y, x < M.n → y < M.n → M.acc x ≠ M.acc y → D x y = true
structure RelD (M : Tab) (D0 D : Nat → Nat → Bool) (av : Bool) (i j c : Nat) : Prop where
  mono : ∀ x y, x < M.n → y < M.n → D0 x y = true → D x y = true
  less : av = true → falses M.n D < falses M.n D0
  same : av = false → ∀ x y, x < M.n → y < M.n → D x y = D0 x y
  clo : av = false → ∀ x y c', y < x → x < M.n → c' < 8 → (x < i ∨ (x = i ∧ (y < j ∨ (y = j ∧ c' < c)))) → D (M.nxt x c') (M.nxt y c') = true → D x y = true
theorem apart_step {M : Tab} {x y c : Nat} (hc : c < 8) (h : Apart M (M.nxt x c) (M.nxt y c)) : Apart M x y := by
  obtain ⟨z, hz, hd⟩ := h
  refine ⟨c :: z, ?_, hd⟩
  intro d hd'
  simp only [List.mem_cons] at hd'
  rcases hd' with rfl | hd'
  · exact hc
  · exact hz d hd'
theorem InvD.all {M : Tab} {D : Nat → Nat → Bool} (h : InvD M D) (hnx : ∀ i c, i < M.n → c < 8 → M.nxt i c < M.n) (hcl : ∀ x y c', y < x → x < M.n → c' < 8 → D (M.nxt x c') (M.nxt y c') = true → D x y = true) :
    ∀ x y, x < M.n → y < M.n → (D x y = true ↔ Apart M x y) := by
  have key : ∀ (z : List Nat), Notes z → ∀ x y, x < M.n → y < M.n → M.acc (M.read x z) ≠ M.acc (M.read y z) → D x y = true := by
    intro z
    induction z with
    | nil => intro _ x y hx hy hd; exact h.base x y hx hy hd
    | cons c z ih =>
      intro hz x y hx hy hd
      have hc : c < 8 := hz c (by simp)
      have hD := ih (fun d hd => hz d (by simp [hd])) (M.nxt x c) (M.nxt y c) (hnx x c hx hc) (hnx y c hy hc) hd
      rcases Nat.lt_trichotomy x y with hlt | heq | hlt
      · rw [h.symm x y hx hy]
        rw [h.symm _ _ (hnx x c hx hc) (hnx y c hy hc)] at hD
        exact hcl y x c hlt hy hc hD
      · subst heq; exact absurd rfl hd
      · exact hcl x y c hlt hx hc hD
  intro x y hx hy
  exact ⟨h.sound x y hx hy, fun ⟨z, hz, hd⟩ => key z hz x y hx hy hd⟩
theorem upd_at (D : Nat → Nat → Bool) (i j : Nat) (v : Bool) : upd D i j v i j = v := by simp [upd]
theorem InvD.put {M : Tab} {D : Nat → Nat → Bool} (h : InvD M D) {i j : Nat} (ha : Apart M i j) : InvD M (upd (upd D i j true) j i true) where
  sound x y hx hy hd := by
    unfold upd at hd
    by_cases e1 : x = j ∧ y = i
    · obtain ⟨rfl, rfl⟩ := e1
      obtain ⟨z, hz, hd⟩ := ha
      exact ⟨z, hz, fun e => hd e.symm⟩
    · rw [if_neg e1] at hd
      by_cases e2 : x = i ∧ y = j
      · obtain ⟨rfl, rfl⟩ := e2; exact ha
      · rw [if_neg e2] at hd; exact h.sound x y hx hy hd
  symm x y hx hy := by
    unfold upd
    have := h.symm x y hx hy
    by_cases e1 : x = j ∧ y = i
    · obtain ⟨rfl, rfl⟩ := e1; simp
    · by_cases e2 : x = i ∧ y = j
      · obtain ⟨rfl, rfl⟩ := e2; simp
      · rw [if_neg e1, if_neg e2, if_neg (fun e => e2 ⟨e.2, e.1⟩), if_neg (fun e => e1 ⟨e.2, e.1⟩)]; exact this
  base x y hx hy hd := by
    unfold upd
    split
    · rfl
    · split
      · rfl
      · exact h.base x y hx hy hd
theorem RelD.put {M : Tab} {D0 D : Nat → Nat → Bool} {av : Bool} {i j c : Nat} (h : RelD M D0 D av i j c) (hi : i < M.n) (hj : j < M.n) (h0 : D i j = false) (c2 : Nat) : RelD M D0 (upd (upd D i j true) j i true) true i j c2 := by
  have hm : ∀ x y, x < M.n → y < M.n → D0 x y = true → upd (upd D i j true) j i true x y = true := by
    intro x y hx hy hd
    unfold upd
    split
    · rfl
    · split
      · rfl
      · exact h.mono x y hx hy hd
  refine ⟨hm, fun _ => falses_lt hm hi hj ?_ ?_, (fun e => by cases e), (fun e => by cases e)⟩
  · cases hd : D0 i j with
    | false => rfl
    | true => rw [h.mono i j hi hj hd] at h0; cases h0
  · unfold upd
    split
    · rfl
    · simp
theorem RelD.pass {M : Tab} {D0 D : Nat → Nat → Bool} {av : Bool} {i j c : Nat} (h : RelD M D0 D av i j c) (hn : D (M.nxt i c) (M.nxt j c) = false) : RelD M D0 D av i j (c + 1) :=
  ⟨h.mono, h.less, h.same, fun e x y c' hyx hx hc hp hd => by
    by_cases e2 : x = i ∧ y = j ∧ c' = c
    · obtain ⟨rfl, rfl, rfl⟩ := e2; rw [hn] at hd; cases hd
    · exact h.clo e x y c' hyx hx hc (by omega) hd⟩
theorem RelD.done8 {M : Tab} {D0 D : Nat → Nat → Bool} {av : Bool} {i j : Nat} (h : RelD M D0 D av i j 8) : RelD M D0 D av i (j + 1) 0 :=
  ⟨h.mono, h.less, h.same, fun e x y c' hyx hx hc hp hd => h.clo e x y c' hyx hx hc (by omega) hd⟩
theorem RelD.doneT {M : Tab} {D0 D : Nat → Nat → Bool} {av : Bool} {i j c : Nat} (h : RelD M D0 D av i j c) (ht : D i j = true) : RelD M D0 D av i (j + 1) 0 :=
  ⟨h.mono, h.less, h.same, fun e x y c' hyx hx hc hp hd => by
    by_cases e2 : x = i ∧ y = j
    · obtain ⟨rfl, rfl⟩ := e2; exact ht
    · exact h.clo e x y c' hyx hx hc (by omega) hd⟩
theorem RelD.row {M : Tab} {D0 D : Nat → Nat → Bool} {av : Bool} {i : Nat} (h : RelD M D0 D av i i 0) : RelD M D0 D av (i + 1) 0 0 :=
  ⟨h.mono, h.less, h.same, fun e x y c' hyx hx hc hp hd => h.clo e x y c' hyx hx hc (by omega) hd⟩

/-- What differing answers. -/
def DiffPost (M : Tab) (w : World) (e : Ending) (w' : World) : Prop :=
  Below w.heap.size w w' ∧ ∃ (g : Nat) (rb : Nat → Nat) (D : Nat → Nat → Bool), e = .returned (.slice (some ⟨g, 0, none⟩) M.n M.n) ∧ MatTo w' (w.heap.size + 1) g M.n M.n rb D ∧ ∀ x y, x < M.n → y < M.n → (D x y = true ↔ Apart M x y)
set_option maxRecDepth 20000 in
set_option maxHeartbeats 4000000 in
theorem differing_ok (V : Lay) (M : Tab) (w : World) (hlo : 1 ≤ M.n) (hhi : M.n ≤ 100000000) (hnx : ∀ i c, i < M.n → c < 8 → M.nxt i c < M.n) (hV : TabAt w V M) :
    Calls Tryz.prog 103 #[.agg #[.slice (some ⟨V.ba, V.oa, none⟩) M.n V.ca, .slice (some ⟨V.bn, V.on, none⟩) M.n V.cn]] w
      (DiffPost M w) := by
  have mk1 := run_make_row' (P := Tryz.prog) 108 38 (.slice none 0 0) 24 Tryz.underlying108 Tryz.infoB rfl .i64 .i64 M.n (by omega) (by omega)
  have mk2 := run_make_row' (P := Tryz.prog) 38 4 (.bool false) 1 Tryz.underlying38 Tryz.info4 rfl .i64 .i64 M.n (by omega) (by omega)
  obtain ⟨W, hW⟩ : ∃ W, W = w.alloc (.cells #[.slice (some ⟨V.ba, V.oa, none⟩) M.n V.ca, .slice (some ⟨V.bn, V.on, none⟩) M.n V.cn] 41) := ⟨_, rfl⟩
  have BW : Below w.heap.size w W := by rw [hW]; exact (Below.refl _ _).alloc (Nat.le_refl _) _
  have hWs : W.heap.size = w.heap.size + 1 := by rw [hW]; simp
  have b0 : W.heap[w.heap.size]? = some (.cells #[.slice (some ⟨V.ba, V.oa, none⟩) M.n V.ca, .slice (some ⟨V.bn, V.on, none⟩) M.n V.cn] 41 (0, 0)) := by rw [hW]; exact heap_at_new (by simp)
  have P0 : MatTo (W.alloc (.cells (madeCells #[.slice none 0 0] M.n) 38)) (w.heap.size + 1) (w.heap.size + 1) M.n 0 (fun _ => 0) (fun _ _ => false) :=
    ⟨(madeCells_rowIs (heap_at_new hWs.symm)).congr (fun i _ => by simp), fun i hi => absurd hi (by omega), fun i j hi => absurd hi (by omega), Nat.le_refl _, fun i hi => absurd hi (by omega)⟩
  have B0 : Below (w.heap.size + 1) W (W.alloc (.cells (madeCells #[.slice none 0 0] M.n) 38)) := (Below.refl _ _).alloc (by omega) _
  go_enter Tryz.func103, Tryz.ntmps103
  go_wp2_with fail
  rw [← hW]
  clear hW mk1
  go_loopw [5, 6] (fun i' _ wr => ∃ (k : Nat) (rb : Nat → Nat) (D : Nat → Nat → Bool), k ≤ M.n ∧ i' = .int .i64 k ∧ Below (w.heap.size + 1) W wr ∧ MatTo wr (w.heap.size + 1) (w.heap.size + 1) M.n k rb D ∧ ∀ x y, x < k → y < M.n → D x y = (M.acc x != M.acc y))
    (fun i' _ _ => M.n - (intOf i').toNat)
  case atStart => exact ⟨0, _, _, by omega, rfl, B0, P0, fun x y hx => absurd hx (by omega)⟩
  case round =>
    obtain ⟨k, rb, D, hk, rfl, hb, hP, hD⟩ := hrel
    clear P0 B0
    by_cases hlt : k < M.n
    · have t0 := hP.top.cell hlt
      have t1 := hP.top.frozen k
      rw [if_neg (Nat.lt_irrefl k)] at t0
      have HP : Hid _ := hP
      have HB : Hid _ := hb
      have hts := hP.top.lt
      have hbs := hb.size
      clear hP hb
      go_wp2_with fail
      clear mk2 t0 t1
      rename World => wo
      have hN1 : MatTo ((wo.alloc (.cells (madeCells #[.bool false] M.n) 4)).setCell ⟨w.heap.size + 1, k, none⟩ (.slice (some ⟨wo.heap.size, 0, none⟩) M.n M.n)) (w.heap.size + 1) (w.heap.size + 1) M.n (k + 1) (fun i => if i = k then wo.heap.size else rb i) (fun i j => if i = k then false else D i j) :=
        (HP.out.below ((Below.refl _ _).alloc (Nat.le_refl _) _)).next (f := fun _ => false) (madeCells_rowIs (heap_at_new rfl)) (fun i hi => by have := (HP.out.row i hi).lt; omega) (by omega)
      have hB1 : Below (w.heap.size + 1) W ((wo.alloc (.cells (madeCells #[.bool false] M.n) 4)).setCell ⟨w.heap.size + 1, k, none⟩ (.slice (some ⟨wo.heap.size, 0, none⟩) M.n M.n)) := (HB.out.alloc (by omega) _).setCell (p := ⟨w.heap.size + 1, k, none⟩) (Nat.le_refl _) _
      rw [World.setCell_alloc_past _ _ _ _ hts] at hN1 hB1
      generalize (fun i => if i = k then wo.heap.size else rb i) = rb' at hN1
      have HD0 : Hid (∀ x y, x < k → y < M.n → (fun i j => if i = k then false else D i j) x y = (M.acc x != M.acc y)) := fun x y hx hy => by simp only [if_neg (show x ≠ k by omega)]; exact hD x y hx hy
      have HD1 : Hid (∀ y, y < M.n → (fun i j => if i = k then false else D i j) k y = false) := fun y hy => by simp
      generalize (fun i j => if i = k then false else D i j) = Dn at hN1 HD0 HD1
      clear HP HB hD
      go_loopw [6] (fun j' wi => ∃ (j : Nat) (D' : Nat → Nat → Bool), j ≤ M.n ∧ j' = .int .i64 j ∧ Below (w.heap.size + 1) W wi ∧ MatTo wi (w.heap.size + 1) (w.heap.size + 1) M.n (k + 1) rb' D' ∧ (∀ x y, x < k → y < M.n → D' x y = (M.acc x != M.acc y)) ∧ ∀ y, y < M.n → D' k y = if y < j then (M.acc k != M.acc y) else false)
        (fun j' _ => M.n - (intOf j').toNat)
      case atStart => exact ⟨0, Dn, by omega, rfl, hB1, hN1, HD0.out, fun y hy => by simp [HD1.out y hy]⟩
      case round =>
        clear hN1 hB1 HD0 HD1
        obtain ⟨j, D', hj, rfl, hb, hP, hD1, hD2⟩ := hrel
        have hbw : Below w.heap.size w wr := BW.trans (hb.mono (by omega))
        obtain ⟨x0, x1, _, _⟩ := cell_two ((hb.block _ (by omega)).trans b0)
        by_cases hltj : j < M.n
        · have a0 := (hV.below hbw).acc k hlt
          have a1 := (hV.below hbw).acc j hltj
          have t0 := hP.top.cell hlt
          rw [if_pos (show k < k + 1 by omega)] at t0
          have r0 := (hP.row k (by omega)).cell hltj
          have r1 := (hP.row k (by omega)).frozen j
          obtain ⟨dv, HDV⟩ : ∃ x, Hid (D' k j = x) := ⟨_, rfl⟩
          rw [HDV.out] at r0
          have HP : Hid _ := hP
          have HB : Hid _ := hb
          have HE : Hid _ := hD1
          have HF : Hid _ := hD2
          have hrl := hP.lr k (by omega)
          clear hP hb hD1 hD2 hbw
          go_wp2_with fail
          go_region
          go_wp2_with fail
          go_roundw
          case rel =>
            refine ⟨j + 1, upd D' k j (M.acc k != M.acc j), by omega, by go_num, HB.out.drew.setCell (p := ⟨rb' k, j, none⟩) hrl _, (HP.out.below ((Below.refl _ _).drew)).set (by omega) _, fun x y hx hy => ?_, fun y hy => ?_⟩
            · unfold upd; rw [if_neg (by omega)]; exact HE.out x y hx hy
            · unfold upd
              by_cases e : y = j
              · subst e; simp
              · rw [if_neg (by omega), HF.out y hy]
                by_cases h' : y < j
                · rw [if_pos h', if_pos (by omega)]
                · rw [if_neg h', if_neg (by omega)]
          case measure => simp [intOf]; omega
        · have he : j = M.n := by omega
          subst he
          have HP : Hid _ := hP
          have HB : Hid _ := hb
          have HE : Hid _ := hD1
          have HF : Hid _ := hD2
          clear hP hb hD1 hD2
          go_wp2_with fail
          go_roundw
          case rel =>
            refine ⟨k + 1, rb', D', by omega, by go_num, HB.out, HP.out, fun x y hx hy => ?_⟩
            by_cases e : x = k
            · subst e; rw [HF.out y hy, if_pos hy]
            · exact HE.out x y (by omega) hy
          case measure => simp [intOf]; omega
    · have he : k = M.n := by omega
      subst he
      have hI : InvD M D := by
        refine ⟨fun x y hx hy hd => ?_, fun x y hx hy => ?_, fun x y hx hy hd => ?_⟩
        · rw [hD x y hx hy] at hd
          exact ⟨[], by intro c hc; simp at hc, by simpa [Tab.read] using hd⟩
        · rw [hD x y hx hy, hD y x hy hx]
          cases M.acc x <;> cases M.acc y <;> rfl
        · rw [hD x y hx hy]; simpa using hd
      clear mk2 hD
      go_wp2_with fail
      go_loopg [7, 8, 9, 10] (falses M.n D + 1) (fun gk a _ _ _ wr => ∃ (av : Bool) (D : Nat → Nat → Bool), a = .bool av ∧ Below (w.heap.size + 1) W wr ∧ MatTo wr (w.heap.size + 1) (w.heap.size + 1) M.n M.n rb D ∧ InvD M D ∧ gk = falses M.n D + (if av then 1 else 0) ∧ (av = false → ∀ x y c', y < x → x < M.n → c' < 8 → D (M.nxt x c') (M.nxt y c') = true → D x y = true))
      case atStart => exact ⟨true, D, rfl, hb, hP, hI, rfl, fun e => by cases e⟩
      case round =>
        clear hI hb hP
        obtain ⟨av, D1, rfl, hb, hP, hI, rfl, hcl⟩ := hrel
        have HP1 : Hid _ := hP
        have HB1 : Hid _ := hb
        have HI1 : Hid _ := hI
        have HC1 : Hid _ := hcl
        clear hP hb hI hcl
        cases av
        · go_wp2_with fail
          go_ret
          exact ⟨BW.trans (HB1.out.mono (by omega)), w.heap.size + 1, rb, D1, rfl, HP1.out, HI1.out.all hnx (HC1.out (by trivial))⟩
        · go_wp2_with fail
          rename World => wo
          go_loopw [7, 8, 9, 10] (fun a i' _ _ wi => ∃ (av : Bool) (i : Nat) (D : Nat → Nat → Bool), a = .bool av ∧ i ≤ M.n ∧ i' = .int .i64 i ∧ Below (w.heap.size + 1) W wi ∧ MatTo wi (w.heap.size + 1) (w.heap.size + 1) M.n M.n rb D ∧ InvD M D ∧ RelD M D1 D av i 0 0)
            (fun _ i' _ _ _ => M.n - (intOf i').toNat)
          case atStart => exact ⟨false, 0, D1, rfl, by omega, rfl, HB1.out, HP1.out, HI1.out, ⟨fun _ _ _ _ h => h, (fun e => by cases e), fun _ _ _ _ _ => rfl, fun _ x y c' h1 h2 h3 h4 => by omega⟩⟩
          case round =>
            obtain ⟨av, i, D2, rfl, hi, rfl, hb, hP, hI, hR⟩ := hrel
            have HP2 : Hid _ := hP
            have HB2 : Hid _ := hb
            have HI2 : Hid _ := hI
            have HR2 : Hid _ := hR
            clear hP hb hI hR
            by_cases hlti : i < M.n
            · go_wp2_with fail
              go_loopw [7, 9, 10] (fun a j' _ wi => ∃ (av : Bool) (j : Nat) (D : Nat → Nat → Bool), a = .bool av ∧ j ≤ i ∧ j' = .int .i64 j ∧ Below (w.heap.size + 1) W wi ∧ MatTo wi (w.heap.size + 1) (w.heap.size + 1) M.n M.n rb D ∧ InvD M D ∧ RelD M D1 D av i j 0)
                (fun _ j' _ _ => i - (intOf j').toNat)
              case atStart => exact ⟨av, 0, D2, rfl, by omega, rfl, HB2.out, HP2.out, HI2.out, HR2.out⟩
              case round =>
                clear HP2 HB2 HI2 HR2
                obtain ⟨av, j, D3, rfl, hj, rfl, hb, hP, hI, hR⟩ := hrel
                have HP3 : Hid _ := hP
                have HB3 : Hid _ := hb
                have HI3 : Hid _ := hI
                have HR3 : Hid _ := hR
                clear hP hb hI hR
                by_cases hltj : j < i
                · go_wp2_with fail
                  go_loopw [7, 10] (fun a c' wi => ∃ (av : Bool) (c : Nat) (D : Nat → Nat → Bool), a = .bool av ∧ c ≤ 8 ∧ c' = .int .i64 c ∧ Below (w.heap.size + 1) W wi ∧ MatTo wi (w.heap.size + 1) (w.heap.size + 1) M.n M.n rb D ∧ InvD M D ∧ RelD M D1 D av i j c)
                    (fun _ c' _ => 8 - (intOf c').toNat)
                  case atStart => exact ⟨av, 0, D3, rfl, by omega, rfl, HB3.out, HP3.out, HI3.out, HR3.out⟩
                  case round =>
                    clear HP3 HB3 HI3 HR3
                    obtain ⟨av, c, D4, rfl, hc, rfl, hb, hP, hI, hR⟩ := hrel
                    have hbw : Below w.heap.size w wr := BW.trans (hb.mono (by omega))
                    have hjn : j < M.n := by omega
                    have ti := hP.top.cell hlti
                    have tj := hP.top.cell hjn
                    rw [if_pos hlti] at ti
                    rw [if_pos hjn] at tj
                    have rij := (hP.row i hlti).cell hjn
                    obtain ⟨dv, HDV⟩ : ∃ x, Hid (D4 i j = x) := ⟨_, rfl⟩
                    rw [HDV.out] at rij
                    have HP4 : Hid _ := hP
                    have HB4 : Hid _ := hb
                    have HI4 : Hid _ := hI
                    have HR4 : Hid _ := hR
                    obtain ⟨x0, x1, _, _⟩ := cell_two ((hb.block _ (by omega)).trans b0)
                    by_cases hl8 : c < 8
                    · cases dv
                      · have y0 := (hV.below hbw).row i hlti
                        have y1 := (hV.below hbw).cel i c hlti hl8
                        have y2 := (hV.below hbw).row j hjn
                        have y3 := (hV.below hbw).cel j c hjn hl8
                        have n1 := hnx i c hlti hl8
                        have n2 := hnx j c hjn hl8
                        obtain ⟨ni, HNI⟩ : ∃ x, Hid (M.nxt i c = x) := ⟨_, rfl⟩
                        obtain ⟨nj, HNJ⟩ : ∃ x, Hid (M.nxt j c = x) := ⟨_, rfl⟩
                        rw [HNI.out] at y1 n1
                        rw [HNJ.out] at y3 n2
                        have tn := hP.top.cell n1
                        rw [if_pos n1] at tn
                        have rn := (hP.row ni n1).cell n2
                        obtain ⟨nv, HNV⟩ : ∃ x, Hid (D4 ni nj = x) := ⟨_, rfl⟩
                        rw [HNV.out] at rn
                        have rji := (hP.row j hjn).cell hlti
                        have fij := (hP.row i hlti).frozen j
                        have fji := (hP.row j hjn).frozen i
                        have dij : ¬ rb i = rb j := hP.inj i j hlti hjn (by omega)
                        have dji : ¬ rb j = rb i := fun e => dij e.symm
                        have dgi : ¬ w.heap.size + 1 = rb i := rowIs_ne hP.top (hP.row i hlti) (by decide)
                        have dgj : ¬ w.heap.size + 1 = rb j := rowIs_ne hP.top (hP.row j hjn) (by decide)
                        have lri := hP.lr i hlti
                        have lrj := hP.lr j hjn
                        clear hP hb hI hR hbw
                        cases nv
                        · go_wp2_with fail
                          go_quiet (fail)
                          go_wp2_with fail
                          go_roundw
                          case rel => exact ⟨av, c + 1, D4, rfl, by omega, by go_num, below_drewN HB4.out _, HP4.out.below (below_drewN (Below.refl _ _) _), HI4.out, HR4.out.pass (by rw [HNI.out, HNJ.out]; exact HNV.out)⟩
                          case measure => simp [intOf]; omega
                        · go_wp2_with fail
                          go_quiet (fail)
                          go_wp2_with fail
                          go_roundw
                          case rel =>
                            have hA : Apart M i j := apart_step hl8 (HI4.out.sound _ _ (by rw [HNI.out]; exact n1) (by rw [HNJ.out]; exact n2) (by rw [HNI.out, HNJ.out]; exact HNV.out))
                            refine ⟨true, c + 1, upd (upd D4 i j true) j i true, rfl, by omega, by go_num, ?_, ?_, HI4.out.put hA, HR4.out.put hlti hjn HDV.out _⟩
                            · exact ((below_drewN HB4.out _).setCell (p := ⟨rb i, j, none⟩) lri _).setCell (p := ⟨rb j, i, none⟩) lrj _
                            · exact ((HP4.out.below (below_drewN (Below.refl _ _) _)).set hlti true).set hjn true
                          case measure => simp [intOf]; omega
                      · clear hP hb hI hR hbw
                        go_wp2_with fail
                        go_roundw
                        case rel => exact ⟨av, j + 1, D4, rfl, by omega, by go_num, HB4.out, HP4.out, HI4.out, HR4.out.doneT HDV.out⟩
                        case measure => simp [intOf]; omega
                    · have he : c = 8 := by omega
                      subst he
                      clear hP hb hI hR hbw
                      go_wp2_with fail
                      go_roundw
                      case rel => exact ⟨av, j + 1, D4, rfl, by omega, by go_num, HB4.out, HP4.out, HI4.out, HR4.out.done8⟩
                      case measure => simp [intOf]; omega
                · have he : j = i := by omega
                  subst he
                  go_wp2_with fail
                  go_roundw
                  case rel => exact ⟨av, j + 1, D3, rfl, by omega, by go_num, HB3.out, HP3.out, HI3.out, HR3.out.row⟩
                  case measure => simp [intOf]; omega
            · have he : i = M.n := by omega
              subst he
              go_wp2_with fail
              go_roundg (falses M.n D2 + (if av then 1 else 0))
              case measure =>
                cases av
                · have : falses M.n D2 = falses M.n D1 := by
                    unfold falses
                    congr 1
                    apply List.filter_congr
                    intro q hq
                    have hq' : q < M.n * M.n := by simpa using hq
                    have hn : 0 < M.n := by omega
                    rw [HR2.out.same rfl _ _ (Nat.div_lt_of_lt_mul hq') (Nat.mod_lt _ hn)]
                  simp; omega
                · have := HR2.out.less rfl
                  simp; omega
              case rel =>
                refine ⟨av, D2, rfl, HB2.out, HP2.out, HI2.out, rfl, fun e x y c' hyx hx hc hd => HR2.out.clo e x y c' hyx hx hc (.inl hx) hd⟩
end Go.Proofs.YtpngikmcjkjdaaaGreatDoor
