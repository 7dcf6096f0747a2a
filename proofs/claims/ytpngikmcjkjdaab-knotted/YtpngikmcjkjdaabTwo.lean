import Derived.Test.YtpngikmcjkjdaabOwn
namespace Go.Proofs.Ytpngikmcjkjdaab
open Go.RowKit
set_option linter.unusedVariables false

theorem cell_two {w : World} {b : Nat} {x y : Value} {t : TypeId} (h : w.heap[b]? = some (.cells #[x, y] t (0, 0))) : w.cell? ⟨b, 0, none⟩ = some x ∧ w.cell? ⟨b, 1, none⟩ = some y ∧ w.frozen? ⟨b, 0, none⟩ = false ∧ w.frozen? ⟨b, 1, none⟩ = false := by
  simp [World.cell?, World.frozen?, h]
theorem two_set0 {w : World} {b : Nat} {x y u : Value} {t : TypeId} (h : w.heap[b]? = some (.cells #[x, y] t (0, 0))) : (w.setCell ⟨b, 0, none⟩ u).heap[b]? = some (.cells #[u, y] t (0, 0)) := by
  simp [World.setCell, Array.getElem?_modify, h]
theorem two_set1 {w : World} {b : Nat} {x y u : Value} {t : TypeId} (h : w.heap[b]? = some (.cells #[x, y] t (0, 0))) : (w.setCell ⟨b, 1, none⟩ u).heap[b]? = some (.cells #[x, u] t (0, 0)) := by
  simp [World.setCell, Array.getElem?_modify, h]
theorem res_two {w : World} {b : Nat} {x y u v : Value} {t : TypeId} (h : w.heap[b]? = some (.cells #[x, y] t (0, 0))) :
    (w.setCell ⟨b, 0, none⟩ u).cell? ⟨b, 0, none⟩ = some u ∧ ((w.setCell ⟨b, 0, none⟩ u).setCell ⟨b, 1, none⟩ v).cell? ⟨b, 1, none⟩ = some v ∧ ((w.setCell ⟨b, 0, none⟩ u).setCell ⟨b, 1, none⟩ v).cell? ⟨b, 0, none⟩ = some u :=
  ⟨(cell_two (two_set0 h)).1, (cell_two (two_set1 (two_set0 h))).2.1, (cell_two (two_set1 (two_set0 h))).1⟩
theorem heap_set_other {w : World} {a : Addr} {u : Value} {k : Nat} {o : Obj} (h : w.heap[k]? = some o) (hne : k ≠ a.block) : (w.setCell a u).heap[k]? = some o := by
  rw [Below.heap_setCell w a u k hne]; exact h
theorem heap_lt {w : World} {b : Nat} {o : Obj} (h : w.heap[b]? = some o) : b < w.heap.size := (Array.getElem?_eq_some_iff.1 h).1

/-- A struct of two slices of the call's own, in block b; each row lies behind b, the two apart; below b the world is as it was. -/
structure TwoRows (W : World) (b : Nat) (t e0 s0 e1 s1 : Nat) (w : World) (v0 v1 : Value) (n0 n1 : Nat) (x0 x1 : List Value) : Prop where
  blw : Below b W w
  blk : w.heap[b]? = some (.cells #[v0, v1] t (0, 0))
  own0 : w.ownsRow (b + 1) e0 s0 v0 n0 x0
  own1 : w.ownsRow (b + 1) e1 s1 v1 n1 x1
  dis : ∀ g, v0.ownBlock = some g → v1.ownBlock = some g → False

variable {W : World} {b t e0 s0 e1 s1 : Nat} {w w1 w2 : World} {v0 v1 : Value} {n0 n1 : Nat} {x0 x1 : List Value}

theorem ownsRow_below {base e size n : Nat} {v : Value} {xs : List Value} (h : w.ownsRow base e size v n xs) (hb : Below w.heap.size w w1) : w1.ownsRow base e size v n xs :=
  h.kept (row := none) ⟨hb.os, hb.tape, hb.output, hb.size, fun k hk _ => hb.block k hk⟩ (by cases hv : v.ownBlock <;> simp)

theorem TwoRows.below (h : TwoRows W b t e0 s0 e1 s1 w v0 v1 n0 n1 x0 x1) (hb : Below w.heap.size w w1) : TwoRows W b t e0 s0 e1 s1 w1 v0 v1 n0 n1 x0 x1 where
  blw := h.blw.trans (hb.mono (by have := heap_lt h.blk; omega))
  blk := by rw [hb.block b (heap_lt h.blk)]; exact h.blk
  own0 := ownsRow_below h.own0 hb
  own1 := ownsRow_below h.own1 hb
  dis := h.dis

theorem TwoRows.grown0 (h : TwoRows W b t e0 s0 e1 s1 w v0 v1 n0 n1 x0 x1) (hg : w.grownBy w2 v0.ownBlock) : w2.heap[b]? = some (.cells #[v0, v1] t (0, 0)) := by
  rw [hg.block b (heap_lt h.blk) (fun e => by have := (h.own0.lt b e.symm).1; omega)]; exact h.blk
theorem TwoRows.grown1 (h : TwoRows W b t e0 s0 e1 s1 w v0 v1 n0 n1 x0 x1) (hg : w.grownBy w2 v1.ownBlock) : w2.heap[b]? = some (.cells #[v0, v1] t (0, 0)) := by
  rw [hg.block b (heap_lt h.blk) (fun e => by have := (h.own1.lt b e.symm).1; omega)]; exact h.blk

theorem TwoRows.put0 (h : TwoRows W b t e0 s0 e1 s1 w v0 v1 n0 n1 x0 x1) {g cap m : Nat} {ys : List Value} (hown : w2.ownsRow (b + 1) e0 s0 (.slice (some ⟨g, 0, none⟩) m cap) m ys) (hg : w.grownBy w2 v0.ownBlock)
    (hf : v0.ownBlock = some g ∨ g = w.heap.size) : TwoRows W b t e0 s0 e1 s1 (w2.setCell ⟨b, 0, none⟩ (.slice (some ⟨g, 0, none⟩) m cap)) (.slice (some ⟨g, 0, none⟩) m cap) v1 m n1 ys x1 where
  blw := by
    have hb1 := heap_lt h.blk
    exact (h.blw.grown hg (by omega) (fun k e => by have := (h.own0.lt k e).1; omega)).setCell (Nat.le_refl _) _
  blk := two_set0 (h.grown0 hg)
  own0 := ownsRow_setCell_below hown (by simp) _
  own1 := ownsRow_setCell_below (h.own1.kept hg (by
    cases hv : v1.ownBlock with
    | none => exact .inl rfl
    | some k => exact .inr (fun e => h.dis k e.symm hv))) (by simp) _
  dis := by
    intro k hk hk1
    simp only [Value.ownBlock, Option.some.injEq] at hk
    subst hk
    rcases hf with hf | rfl
    · exact h.dis _ hf hk1
    · have := (h.own1.lt _ hk1).2; omega

theorem TwoRows.put1 (h : TwoRows W b t e0 s0 e1 s1 w v0 v1 n0 n1 x0 x1) {g cap m : Nat} {ys : List Value} (hown : w2.ownsRow (b + 1) e1 s1 (.slice (some ⟨g, 0, none⟩) m cap) m ys) (hg : w.grownBy w2 v1.ownBlock)
    (hf : v1.ownBlock = some g ∨ g = w.heap.size) : TwoRows W b t e0 s0 e1 s1 (w2.setCell ⟨b, 1, none⟩ (.slice (some ⟨g, 0, none⟩) m cap)) v0 (.slice (some ⟨g, 0, none⟩) m cap) n0 m x0 ys where
  blw := by
    have hb1 := heap_lt h.blk
    exact (h.blw.grown hg (by omega) (fun k e => by have := (h.own1.lt k e).1; omega)).setCell (Nat.le_refl _) _
  blk := two_set1 (h.grown1 hg)
  own1 := ownsRow_setCell_below hown (by simp) _
  own0 := ownsRow_setCell_below (h.own0.kept hg (by
    cases hv : v0.ownBlock with
    | none => exact .inl rfl
    | some k => exact .inr (fun e => h.dis k hv e.symm))) (by simp) _
  dis := by
    intro k hk1 hk
    simp only [Value.ownBlock, Option.some.injEq] at hk
    subst hk
    rcases hf with hf | rfl
    · exact h.dis _ hk1 hf
    · have := (h.own0.lt _ hk1).2; omega

/-- The shape of an owned slice. -/
theorem ownsRow_shape {base e size n : Nat} {v : Value} {xs : List Value} (h : w.ownsRow base e size v n xs) : ∃ ao cap, v = .slice ao n cap ∧ (0 < n → ∃ g, ao = some ⟨g, 0, none⟩ ∧ ∀ j, j < n * size → w.cell? ⟨g, j, none⟩ = xs[j]?) := by
  rcases h.2 with ⟨rfl, rfl⟩ | ⟨g, cap, cur, rfl, r⟩
  · exact ⟨none, 0, rfl, fun h => absurd h (by omega)⟩
  · exact ⟨some ⟨g, 0, none⟩, cap, rfl, fun _ => ⟨g, rfl, fun j hj => h.cellAt j hj⟩⟩
end Go.Proofs.Ytpngikmcjkjdaab
