import Derived.Test.YtpngikmcjkjdaaaGreatDoorJoin
namespace Go.Proofs.YtpngikmcjkjdaaaGreatDoor
open Go.RowKit
set_option linter.unusedVariables false

/-- Lists that may be a table or not: where they lie, how long they are. -/
structure RLay where
  (aa an : Option Addr)
  (na ca nn cn : Nat)
  (ra : Nat → Option Addr)
  (rl rc : Nat → Nat)
def RLay.val (r : RLay) : Value := .agg #[.slice r.aa r.na r.ca, .slice r.an r.nn r.cn]
structure RawAt (w : World) (r : RLay) (A : Nat → Bool) (X : Nat → Nat → Int) : Prop where
  la : r.na ≤ 9223372036854775807
  ln : r.nn ≤ 9223372036854775807
  lr : ∀ i, i < r.nn → r.rl i ≤ 9223372036854775807
  acc : ∀ i, i < r.na → ∃ b o, r.aa = some ⟨b, o, none⟩ ∧ w.cell? ⟨b, o + i, none⟩ = some (.bool (A i))
  row : ∀ i, i < r.nn → ∃ b o, r.an = some ⟨b, o, none⟩ ∧ w.cell? ⟨b, o + i, none⟩ = some (.slice (r.ra i) (r.rl i) (r.rc i))
  cel : ∀ i c, i < r.nn → c < r.rl i → ∃ b o, r.ra i = some ⟨b, o, none⟩ ∧ w.cell? ⟨b, o + c, none⟩ = some (.int .i64 (X i c))
theorem RawAt.below {w w' : World} {r : RLay} {A : Nat → Bool} {X : Nat → Nat → Int} (h : RawAt w r A X) (hb : Below w.heap.size w w') : RawAt w' r A X :=
  ⟨h.la, h.ln, h.lr, fun i hi => by obtain ⟨b, o, e, hc⟩ := h.acc i hi; exact ⟨b, o, e, by rw [(bcell hb).1 _ _ (lt_of_cell hc)]; exact hc⟩,
    fun i hi => by obtain ⟨b, o, e, hc⟩ := h.row i hi; exact ⟨b, o, e, by rw [(bcell hb).1 _ _ (lt_of_cell hc)]; exact hc⟩,
    fun i c hi hc => by obtain ⟨b, o, e, hcc⟩ := h.cel i c hi hc; exact ⟨b, o, e, by rw [(bcell hb).1 _ _ (lt_of_cell hcc)]; exact hcc⟩⟩

/-- The rows below k are right ones. -/
def rowsOk (r : RLay) (X : Nat → Nat → Int) : Nat → Bool
  | 0 => true
  | k + 1 => rowsOk r X k && (decide (r.rl k = 8) && rowOk (X k) r.nn 8)
theorem rowsOk_iff (r : RLay) (X : Nat → Nat → Int) (k : Nat) : rowsOk r X k = true ↔ ∀ i, i < k → r.rl i = 8 ∧ ∀ c, c < 8 → 0 ≤ X i c ∧ X i c < r.nn := by
  induction k with
  | zero => simp [rowsOk]
  | succ k ih =>
    simp only [rowsOk, Bool.and_eq_true, ih, decide_eq_true_eq, rowOk_iff]
    constructor
    · rintro ⟨h, h1⟩ c hc
      by_cases e : c = k
      · subst e; exact h1
      · exact h c (by omega)
    · intro h
      exact ⟨fun c hc => h c (by omega), h k (by omega)⟩
theorem rowsOk_mono (r : RLay) (X : Nat → Nat → Int) (k m : Nat) (hk : k ≤ m) (h : rowsOk r X k = false) : rowsOk r X m = false := by
  rw [Bool.eq_false_iff] at h ⊢
  intro hm; apply h; rw [rowsOk_iff] at hm ⊢; exact fun c hc => hm c (by omega)
/-- Is it a table? -/
def rawOk (r : RLay) (X : Nat → Nat → Int) : Bool := (decide (1 ≤ r.nn) && decide (r.nn ≤ 40)) && (decide (r.na = r.nn) && rowsOk r X r.nn)
/-- The table that it is. -/
def rawTab (r : RLay) (A : Nat → Bool) (X : Nat → Nat → Int) : Tab := ⟨r.nn, A, fun i c => (X i c).toNat⟩
theorem rawTab_ok {r : RLay} {A : Nat → Bool} {X : Nat → Nat → Int} (h : rawOk r X = true) : (rawTab r A X).Ok := by
  simp only [rawOk, Bool.and_eq_true, decide_eq_true_eq, rowsOk_iff] at h
  refine ⟨h.1.1, h.1.2, fun i c hi hc => ?_⟩
  have := (h.2.2 i hi).2 c hc
  simp only [rawTab]; omega
/-- Lists that are a table lie as one. -/
theorem rawTab_at {w : World} {r : RLay} {A : Nat → Bool} {X : Nat → Nat → Int} (hr : RawAt w r A X) (h : rawOk r X = true) :
    ∃ V : Lay, r.val = .agg #[.slice (some ⟨V.ba, V.oa, none⟩) (rawTab r A X).n V.ca, .slice (some ⟨V.bn, V.on, none⟩) (rawTab r A X).n V.cn] ∧ TabAt w V (rawTab r A X) := by
  have ok := h
  simp only [rawOk, Bool.and_eq_true, decide_eq_true_eq, rowsOk_iff] at h
  obtain ⟨⟨h1, h2⟩, h3, h4⟩ := h
  obtain ⟨ba, oa, ea, _⟩ := hr.acc 0 (by omega)
  obtain ⟨bn, on, en, _⟩ := hr.row 0 (by omega)
  have hrow : ∀ i, ∃ p : Nat × Nat, i < r.nn → r.ra i = some ⟨p.1, p.2, none⟩ := fun i => by
    by_cases hi : i < r.nn
    · obtain ⟨b, o, e, _⟩ := hr.cel i 0 hi (by rw [(h4 i hi).1]; omega)
      exact ⟨(b, o), fun _ => e⟩
    · exact ⟨(0, 0), fun h => absurd h hi⟩
  refine ⟨⟨ba, oa, r.ca, bn, on, r.cn, fun i => (Classical.choose (hrow i)).1, fun i => (Classical.choose (hrow i)).2, r.rc⟩, ?_, ⟨fun i hi => ?_, fun i hi => ?_, fun i c hi hc => ?_⟩⟩
  · simp only [RLay.val, rawTab, ea, en, h3]
  · obtain ⟨b, o, e, hc⟩ := hr.acc i (by rw [h3]; exact hi)
    rw [ea] at e; cases e; exact hc
  · obtain ⟨b, o, e, hc⟩ := hr.row i hi
    rw [en] at e; cases e
    rw [Classical.choose_spec (hrow i) hi, (h4 i hi).1] at hc; exact hc
  · obtain ⟨b, o, e, hcc⟩ := hr.cel i c hi (by rw [(h4 i hi).1]; exact hc)
    have hs := Classical.choose_spec (hrow i) hi
    rw [hs] at e; cases e
    have := (h4 i hi).2 c hc
    rw [hcc]; simp only [rawTab]; rw [show (((X i c).toNat : Nat) : Int) = X i c by omega]

set_option maxRecDepth 20000 in
set_option maxHeartbeats 1600000 in
theorem valid_any (r : RLay) (A : Nat → Bool) (X : Nat → Nat → Int) (w : World) (h : RawAt w r A X) :
    Calls Tryz.prog 120 #[.agg #[.slice r.aa r.na r.ca, .slice r.an r.nn r.cn]] w fun e w' => e = .returned (.bool (rawOk r X)) ∧ Below w.heap.size w w' := by
  have hla := h.la
  have hln := h.ln
  have B1 : Below w.heap.size w (w.alloc (.cells #[.slice r.aa r.na r.ca, .slice r.an r.nn r.cn] 41)) := (Below.refl _ _).alloc (Nat.le_refl _) _
  by_cases hlo : 1 ≤ r.nn
  · by_cases hhi : r.nn ≤ 40
    · by_cases hna : r.na = r.nn
      · have e : rawOk r X = rowsOk r X r.nn := by simp [rawOk, hlo, hhi, hna]
        rw [e]
        have h1 := h.below B1
        have hb : ((r.na : Int) != (r.nn : Int)) = false := by simp [hna]
        have hb2 : ((r.na : Int) == (r.nn : Int)) = true := by simp [hna]
        have HNA : Hid (r.na = r.nn) := hna
        clear e h hna
        go_enter Tryz.func120, Tryz.ntmps120
        go_wp2_with fail
        go_loop [5, 25] (fun _ i => ∃ k : Nat, k ≤ r.nn ∧ i = .int .i64 k ∧ rowsOk r X k = true) (fun _ i => r.nn - (intOf i).toNat)
        case atStart => exact ⟨0, by omega, rfl, rfl⟩
        case round =>
          obtain ⟨k, hk, rfl, hro⟩ := hrel
          by_cases hlt : k < r.nn
          · obtain ⟨b, o, ean, hc⟩ := h1.row k hlt
            have hrl := h1.lr k hlt
            have hce := fun c => h1.cel k c hlt
            have hs : rowsOk r X (k + 1) = (decide (r.rl k = 8) && rowOk (X k) r.nn 8) := by simp [rowsOk, hro]
            clear h1
            by_cases h8 : r.rl k = 8
            · obtain ⟨b2, o2, era, _⟩ := hce 0 (by omega)
              have hcc : ∀ c, c < 8 → (w.alloc (.cells #[.slice r.aa r.na r.ca, .slice r.an r.nn r.cn] 41)).cell? ⟨b2, o2 + c, none⟩ = some (.int .i64 (X k c)) := fun c hc8 => by
                obtain ⟨b3, o3, e3, hc3⟩ := hce c (by omega)
                rw [era] at e3; cases e3; exact hc3
              have HC := validRow_8 b2 o2 (r.rc k) (X k) r.nn _ hcc
              rw [h8, era] at hc
              have hs2 : rowsOk r X (k + 1) = rowOk (X k) r.nn 8 := by rw [hs]; simp [h8]
              generalize r.an = an at *
              subst ean
              cases hv : rowOk (X k) r.nn 8
              · rw [hv] at HC
                have HF : Hid (rowsOk r X r.nn = false) := rowsOk_mono r X (k + 1) _ (by omega) (by rw [hs2, hv])
                clear hs hs2 hro hce hcc hv
                go_wp2_with (go_at_call 157; refine HC.mono ?_; rintro e w' ⟨rfl, rfl⟩)
                go_ret
                exact ⟨ret_bool HF.out.symm, B1⟩
              · rw [hv] at HC
                have HF : Hid (rowsOk r X (k + 1) = true) := by unfold Hid; rw [hs2, hv]
                clear hs hs2 hro hce hcc hv
                go_wp2_with (go_at_call 157; refine HC.mono ?_; rintro e w' ⟨rfl, rfl⟩)
                go_round
                case rel => exact ⟨k + 1, by omega, by go_num, HF.out⟩
                case measure => simp [intOf]; omega
            · have HF : Hid (rowsOk r X r.nn = false) := rowsOk_mono r X (k + 1) _ (by omega) (by rw [hs]; simp [h8])
              generalize r.an = an at *
              subst ean
              clear hs hro hce
              go_wp2_with (go_at_call 157; refine (validRow_no _ _ _ _ _ h8 hrl).mono ?_; rintro e w' ⟨rfl, rfl⟩)
              go_ret
              exact ⟨ret_bool HF.out.symm, B1⟩
          · have e : k = r.nn := by omega
            subst e
            have HF : Hid (rowsOk r X r.nn = true) := hro
            clear hro h1
            go_wp2_with fail
            go_ret
            exact ⟨ret_bool HF.out.symm, B1⟩
      · have e : rawOk r X = false := by simp [rawOk, hna]
        rw [e]
        have hb : ((r.na : Int) == (r.nn : Int)) = false := by simp; omega
        have hb2 : ((r.na : Int) != (r.nn : Int)) = true := by simp; omega
        clear e h
        go_enter Tryz.func120, Tryz.ntmps120
        go_wp2_with fail
        go_ret
        exact ⟨rfl, B1⟩
    · have e : rawOk r X = false := by simp [rawOk, hhi]
      rw [e]
      clear e h
      go_enter Tryz.func120, Tryz.ntmps120
      go_wp2_with fail
      go_ret
      exact ⟨rfl, B1⟩
  · have e : rawOk r X = false := by simp [rawOk, hlo]
    rw [e]
    have hz : r.nn < 1 := by omega
    clear e h
    go_enter Tryz.func120, Tryz.ntmps120
    go_wp2_with fail
    go_ret
    exact ⟨rfl, B1⟩
end Go.Proofs.YtpngikmcjkjdaaaGreatDoor
