import Derived.Test.YtpngikmcjkjdaabLeaf
namespace Go.Proofs.Ytpngikmcjkjdaab
open Go.RowKit
set_option linter.unusedVariables false

/-- A table, as numbers. -/
structure Tab where
  n : Nat
  acc : Nat → Bool
  nxt : Nat → Nat → Nat
structure Tab.Ok (M : Tab) : Prop where
  lo : 1 ≤ M.n
  hi : M.n ≤ 40
  nx : ∀ i c, i < M.n → c < 8 → M.nxt i c < M.n
/-- The state behind a text, from a state on. -/
def Tab.read (M : Tab) (s : Nat) (x : List Nat) : Nat := x.foldl M.nxt s
def Tab.accepts (M : Tab) (x : List Nat) : Bool := M.acc (M.read 0 x)
/-- A text of notes, by their numbers. -/
def Notes (x : List Nat) : Prop := ∀ c ∈ x, c < 8
theorem Tab.read_lt {M : Tab} (h : M.Ok) (s : Nat) (hs : s < M.n) (x : List Nat) (hx : Notes x) : M.read s x < M.n := by
  induction x generalizing s with
  | nil => exact hs
  | cons c x ih =>
    simp only [Tab.read, List.foldl_cons]
    exact ih (M.nxt s c) (h.nx s c hs (hx c (by simp))) (fun d hd => hx d (by simp [hd]))
theorem Tab.read_append (M : Tab) (s : Nat) (x y : List Nat) : M.read s (x ++ y) = M.read (M.read s x) y := by simp [Tab.read]
theorem Tab.read_snoc (M : Tab) (s : Nat) (x : List Nat) (c : Nat) : M.read s (x ++ [c]) = M.nxt (M.read s x) c := by simp [Tab.read]

/-- Where a table lies. -/
structure Lay where
  (ba oa ca bn on cn : Nat)
  (rb ro rc : Nat → Nat)
structure TabAt (w : World) (V : Lay) (M : Tab) : Prop where
  acc : ∀ i, i < M.n → w.cell? ⟨V.ba, V.oa + i, none⟩ = some (.bool (M.acc i))
  row : ∀ i, i < M.n → w.cell? ⟨V.bn, V.on + i, none⟩ = some (.slice (some ⟨V.rb i, V.ro i, none⟩) 8 (V.rc i))
  cel : ∀ i c, i < M.n → c < 8 → w.cell? ⟨V.rb i, V.ro i + c, none⟩ = some (.int .i64 (M.nxt i c))
theorem TabAt.below {w w' : World} {V : Lay} {M : Tab} (h : TabAt w V M) (hb : Below w.heap.size w w') : TabAt w' V M where
  acc i hi := by rw [(bcell hb).1 _ _ (lt_of_cell (h.acc i hi))]; exact h.acc i hi
  row i hi := by rw [(bcell hb).1 _ _ (lt_of_cell (h.row i hi))]; exact h.row i hi
  cel i c hi hc := by rw [(bcell hb).1 _ _ (lt_of_cell (h.cel i c hi hc))]; exact h.cel i c hi hc

/-- All of it lies from block N on. -/
structure Lay.From (V : Lay) (N n : Nat) : Prop where
  a : N ≤ V.ba
  b : N ≤ V.bn
  r : ∀ i, i < n → N ≤ V.rb i
theorem cell_set_other {w : World} {p q : Addr} {u : Value} (h : q.block ≠ p.block) : (w.setCell p u).cell? q = w.cell? q := World.cell?_of_block (Below.heap_setCell w p u q.block h)
theorem TabAt.set {w : World} {V : Lay} {M : Tab} (h : TabAt w V M) {N : Nat} (hV : V.From N M.n) {p : Addr} (hp : p.block < N) (u : Value) : TabAt (w.setCell p u) V M where
  acc i hi := by rw [cell_set_other (by have := hV.a; simp; omega)]; exact h.acc i hi
  row i hi := by rw [cell_set_other (by have := hV.b; simp; omega)]; exact h.row i hi
  cel i c hi hc := by rw [cell_set_other (by have := hV.r i hi; simp; omega)]; exact h.cel i c hi hc

set_option maxRecDepth 20000 in
set_option maxHeartbeats 800000 in
theorem valid_ok (V : Lay) (M : Tab) (w : World) (hM : M.Ok) (h : TabAt w V M) :
    Calls Try.prog 55 #[.agg #[.slice (some ⟨V.ba, V.oa, none⟩) M.n V.ca, .slice (some ⟨V.bn, V.on, none⟩) M.n V.cn]] w
      fun e w' => e = .returned (.bool true) ∧ Below w.heap.size w w' := by
  obtain ⟨h1, h2, hnx⟩ := hM
  generalize hn : M.n = n at *
  have hs : n ≠ 0 := by omega
  have B1 : Below w.heap.size w (w.alloc (.cells #[.slice (some ⟨V.ba, V.oa, none⟩) n V.ca, .slice (some ⟨V.bn, V.on, none⟩) n V.cn] 30)) := (Below.refl _ _).alloc (Nat.le_refl _) _
  have hrow : ∀ i, i < n → (w.alloc (.cells #[.slice (some ⟨V.ba, V.oa, none⟩) n V.ca, .slice (some ⟨V.bn, V.on, none⟩) n V.cn] 30)).cell? ⟨V.bn, V.on + i, none⟩ = some (.slice (some ⟨V.rb i, V.ro i, none⟩) 8 (V.rc i)) :=
    fun i hi => (h.below B1).row i (by omega)
  have hcel : ∀ i, i < n → ∀ c, c < 8 → (w.alloc (.cells #[.slice (some ⟨V.ba, V.oa, none⟩) n V.ca, .slice (some ⟨V.bn, V.on, none⟩) n V.cn] 30)).cell? ⟨V.rb i, V.ro i + c, none⟩ = some (.int .i64 (M.nxt i c)) :=
    fun i hi c hc => (h.below B1).cel i c (by omega) hc
  have hok : ∀ i, i < n → rowOk (fun c => (M.nxt i c : Int)) n 8 = true := by
    intro i hi; rw [rowOk_iff]; intro c hc; have := hnx i c hi hc; omega
  clear h hnx
  go_enter Try.func55, Try.ntmps55
  go_wp2
  go_loop [5, 25] (fun _ i => ∃ k : Nat, k ≤ n ∧ i = .int .i64 k) (fun _ i => n - (intOf i).toNat)
  case atStart => exact ⟨0, by omega, rfl⟩
  case round =>
    obtain ⟨k, hk, rfl⟩ := hrel
    by_cases hlt : k < n
    · have hr := hrow k hlt
      have hcl := hcel k hlt
      have hk8 := hok k hlt
      clear hrow hcel hok
      go_wp2_with (go_at_call 76; refine (validRow_8 _ _ _ (fun c => (M.nxt k c : Int)) _ _ hcl).mono ?_; rw [hk8]; rintro e w' ⟨rfl, rfl⟩)
      go_round
      case rel => exact ⟨k + 1, by omega, by go_num⟩
      case measure => simp [intOf]; omega
    · clear hrow hcel hok
      go_wp2
      go_ret
      exact ⟨rfl, B1⟩
end Go.Proofs.Ytpngikmcjkjdaab
