import Derived.Test.YtpngikmcjkjdaabRuns
import Derived.Deep.QuietTactic
import Derived.BigQuiet
namespace Go.Proofs.Ytpngikmcjkjdaab
open Go.RowKit
set_option linter.unusedVariables false

/-- A wide table in memory: its rows lie one behind the other. -/
structure WideAt (w : World) (gw ga ca gn cn : Nat) (M : Tab) : Prop where
  p0 : w.cell? ⟨gw, 0, none⟩ = some (.slice (some ⟨ga, 0, none⟩) M.n ca)
  p1 : w.cell? ⟨gw, 1, none⟩ = some (.slice (some ⟨gn, 0, none⟩) M.n cn)
  acc : ∀ i, i < M.n → w.cell? ⟨ga, i, none⟩ = some (.bool (M.acc i))
  cel : ∀ i c, i < M.n → c < 8 → w.cell? ⟨gn, i * 8 + c, none⟩ = some (.int .i64 (M.nxt i c))
/-- A row of numbers, from a block's head on. -/
def NatsAt (w : World) (g n : Nat) (f : Nat → Nat) : Prop := ∀ i, i < n → w.cell? ⟨g, i, none⟩ = some (.int .i64 (f i))
theorem WideAt.below {w w' : World} {gw ga ca gn cn : Nat} {M : Tab} (h : WideAt w gw ga ca gn cn M) (hb : Below w.heap.size w w') : WideAt w' gw ga ca gn cn M where
  p0 := by rw [(bcell hb).1 _ _ (lt_of_cell h.p0)]; exact h.p0
  p1 := by rw [(bcell hb).1 _ _ (lt_of_cell h.p1)]; exact h.p1
  acc i hi := by rw [(bcell hb).1 _ _ (lt_of_cell (h.acc i hi))]; exact h.acc i hi
  cel i c hi hc := by rw [(bcell hb).1 _ _ (lt_of_cell (h.cel i c hi hc))]; exact h.cel i c hi hc
theorem NatsAt.below {w w' : World} {g n : Nat} {f : Nat → Nat} (h : NatsAt w g n f) (hb : Below w.heap.size w w') : NatsAt w' g n f :=
  fun i hi => by rw [(bcell hb).1 _ _ (lt_of_cell (h i hi))]; exact h i hi

theorem NatsAt.set {w : World} {g n : Nat} {f : Nat → Nat} (h : NatsAt w g n f) {p : Addr} (hp : g ≠ p.block) (u : Value) : NatsAt (w.setCell p u) g n f :=
  fun i hi => by rw [cell_set_other hp]; exact h i hi

def alikeTo (M : Tab) (f : Nat → Nat) (i j : Nat) : Nat → Bool
  | 0 => true
  | k + 1 => alikeTo M f i j k && (f (M.nxt i k) == f (M.nxt j k))
def alikeB (M : Tab) (f : Nat → Nat) (i j : Nat) : Bool := (M.acc i == M.acc j) && alikeTo M f i j 8
theorem alikeTo_iff (M : Tab) (f : Nat → Nat) (i j k : Nat) : alikeTo M f i j k = true ↔ ∀ c, c < k → f (M.nxt i c) = f (M.nxt j c) := by
  induction k with
  | zero => simp [alikeTo]
  | succ k ih =>
    simp only [alikeTo, Bool.and_eq_true, ih, beq_iff_eq]
    constructor
    · rintro ⟨h, h1⟩ c hc
      by_cases e : c = k
      · subst e; exact h1
      · exact h c (by omega)
    · intro h
      exact ⟨fun c hc => h c (by omega), h k (by omega)⟩
theorem alikeTo_mono (M : Tab) (f : Nat → Nat) (i j k m : Nat) (hk : k ≤ m) (h : alikeTo M f i j k = false) : alikeTo M f i j m = false := by
  rw [Bool.eq_false_iff] at h ⊢
  intro hm; apply h; rw [alikeTo_iff] at hm ⊢; exact fun c hc => hm c (by omega)
theorem alikeB_iff (M : Tab) (f : Nat → Nat) (i j : Nat) : alikeB M f i j = true ↔ M.acc i = M.acc j ∧ ∀ c, c < 8 → f (M.nxt i c) = f (M.nxt j c) := by
  simp [alikeB, alikeTo_iff]

set_option maxRecDepth 20000 in
set_option maxHeartbeats 1000000 in
theorem alike_ok (gw ga ca gn cn go co gh l ch : Nat) (ho : Option Addr) (M : Tab) (f : Nat → Nat) (i j : Nat) (w : World) (hM : WideAt w gw ga ca gn cn M) (hf : NatsAt w go M.n f)
    (hi : i < M.n) (hj : j < M.n) (hn : M.n ≤ 100000000) (hnx : ∀ i c, i < M.n → c < 8 → M.nxt i c < M.n) :
    Calls Try.prog 101 #[.pointer (some ⟨gw, 0, none⟩), .agg #[.slice (some ⟨go, 0, none⟩) M.n co, .slice ho l ch], .int .i64 i, .int .i64 j] w
      fun e w' => e = .returned (.bool (alikeB M f i j)) ∧ Below w.heap.size w w' := by
  have B2 : Below w.heap.size w (w.alloc (.cells #[.slice (some ⟨go, 0, none⟩) M.n co, .slice ho l ch] 149)) :=
    (Below.refl _ _).alloc (Nat.le_refl _) _
  have hM2 := hM.below B2
  have hf2 := hf.below B2
  have p0 := hM2.p0
  have p1 := hM2.p1
  have hai := hM2.acc i hi
  have haj := hM2.acc j hj
  clear hM hf
  by_cases hacc : M.acc i = M.acc j
  · have hb : (M.acc i != M.acc j) = false := by simp [hacc]
    rw [show alikeB M f i j = alikeTo M f i j 8 by simp [alikeB, hacc]]
    rw [hacc] at hai hb
    clear hacc
    go_enter Try.func101, Try.ntmps101
    go_wp2
    go_quiet (fail)
    go_wp2
    go_loopw [9] (fun k' wr => ∃ k : Nat, ∃ q : Nat, k ≤ 8 ∧ k' = .int .i64 k ∧ alikeTo M f i j k = true ∧
        wr = (w.alloc (.cells #[.slice (some ⟨go, 0, none⟩) M.n co, .slice ho l ch] 149)).drewN q)
      (fun k' _ => 8 - (intOf k').toNat)
    case atStart => exact ⟨0, _, by omega, rfl, rfl, rfl⟩
    case round =>
      obtain ⟨k, q, hk, rfl, hal, rfl⟩ := hrel
      clear hai haj hb
      by_cases hlt : k < 8
      · have c1 := hM2.cel i k hi hlt
        have c2 := hM2.cel j k hj hlt
        have n1 := hnx i k hi hlt
        have n2 := hnx j k hj hlt
        have d1 := hf2 _ n1
        have d2 := hf2 _ n2
        by_cases hne : f (M.nxt i k) = f (M.nxt j k)
        · have HA : Hid (alikeTo M f i j (k + 1) = true) := by simp [Hid, alikeTo, hal, hne]
          have hbn : (((f (M.nxt j k) : Nat) : Int) != ((f (M.nxt j k) : Nat) : Int)) = false := by simp
          rw [hne] at d1
          clear hal hM2 hf2 hnx hne
          go_wp2_with fail
          go_quiet (fail)
          go_wp2
          go_roundw
          case rel => exact ⟨k + 1, _, by omega, by go_num, HA.out, rfl⟩
          case measure => simp [intOf]; omega
        · have HA : Hid (alikeTo M f i j 8 = false) := alikeTo_mono M f i j (k + 1) 8 (by omega) (by simp [alikeTo, hne])
          have hbn : (((f (M.nxt i k) : Nat) : Int) == ((f (M.nxt j k) : Nat) : Int)) = false := by simp; omega
          clear hal hM2 hf2 hnx hne
          go_wp2_with fail
          go_quiet (fail)
          go_wp2
          go_ret
          exact ⟨ret_bool HA.out.symm, below_drewN (below_drewN B2 _) _⟩
      · have e : k = 8 := by omega
        subst e
        have HA : Hid (alikeTo M f i j 8 = true) := hal
        clear hal hM2 hf2 hnx
        go_wp2
        go_ret
        exact ⟨ret_bool HA.out.symm, below_drewN B2 _⟩
  · have hb : (M.acc i == M.acc j) = false := by simp [hacc]
    rw [show alikeB M f i j = false by simp [alikeB, hacc]]
    clear hacc
    go_enter Try.func101, Try.ntmps101
    go_wp2
    go_quiet (fail)
    go_wp2
    go_ret
    exact ⟨rfl, below_drewN B2 _⟩
end Go.Proofs.Ytpngikmcjkjdaab
