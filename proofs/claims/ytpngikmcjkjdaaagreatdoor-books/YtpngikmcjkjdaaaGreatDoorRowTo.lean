import Derived.Test.YtpngikmcjkjdaaaGreatDoorRaw
import Derived.Test.YtpngikmcjkjdaaaGreatDoorWide
import Derived.Deep.Upon
namespace Go.Proofs.YtpngikmcjkjdaaaGreatDoor
open Go.RowKit
set_option linter.unusedVariables false

/-- A block whose first n cells are known. -/
def RowTo (w : World) (b t n : Nat) (f : Nat → Value) : Prop := ∃ c : Array Value, w.heap[b]? = some (.cells c t (0, 0)) ∧ n ≤ c.size ∧ ∀ i, i < n → c[i]? = some (f i)
namespace RowTo
variable {w : World} {b t n : Nat} {f g : Nat → Value}
theorem cell (h : RowTo w b t n f) {i : Nat} (hi : i < n) : w.cell? ⟨b, i, none⟩ = some (f i) := by
  obtain ⟨c, hb, _, hc⟩ := h
  simp [World.cell?, hb, hc i hi]
theorem frozen (h : RowTo w b t n f) (i : Nat) : w.frozen? ⟨b, i, none⟩ = false := by
  obtain ⟨c, hb, _, _⟩ := h
  simp [World.frozen?, hb]
theorem lt (h : RowTo w b t n f) : b < w.heap.size := by
  obtain ⟨c, hb, _, _⟩ := h
  exact heap_lt hb
theorem congr (h : RowTo w b t n f) (e : ∀ i, i < n → f i = g i) : RowTo w b t n g := by
  obtain ⟨c, hb, hn, hc⟩ := h
  exact ⟨c, hb, hn, fun i hi => by rw [hc i hi, e i hi]⟩
theorem of_block {w' : World} (h : RowTo w b t n f) (e : w'.heap[b]? = w.heap[b]?) : RowTo w' b t n f := by
  obtain ⟨c, hb, hn, hc⟩ := h
  exact ⟨c, e.trans hb, hn, hc⟩
theorem below {w' : World} (h : RowTo w b t n f) (hb : Below w.heap.size w w') : RowTo w' b t n f := h.of_block (hb.block b h.lt)
theorem set (h : RowTo w b t n f) (i : Nat) (v : Value) : RowTo (w.setCell ⟨b, i, none⟩ v) b t n (fun j => if j = i then v else f j) := by
  obtain ⟨c, hb, hn, hc⟩ := h
  refine ⟨c.setIfInBounds i v, ?_, by simpa using hn, fun j hj => ?_⟩
  · simp [World.setCell, Array.getElem?_modify, hb]
  · rw [Array.getElem?_setIfInBounds]
    by_cases e : j = i
    · subst e
      simp; omega
    · rw [if_neg (fun h => e h.symm)]
      show c[j]? = some (if j = i then v else f j)
      rw [if_neg e]
      exact hc j hj
theorem setOther (h : RowTo w b t n f) {a : Addr} (ha : b ≠ a.block) (v : Value) : RowTo (w.setCell a v) b t n f := h.of_block (Below.heap_setCell w a v b ha)
theorem alloc (h : RowTo w b t n f) (o : Obj) : RowTo (w.alloc o) b t n f := h.of_block (Below.heap_alloc w o b h.lt)
theorem drew (h : RowTo w b t n f) : RowTo w.drew b t n f := h
theorem mono (h : RowTo w b t n f) {m : Nat} (hm : m ≤ n) : RowTo w b t m f := by
  obtain ⟨c, hb, hn, hc⟩ := h
  exact ⟨c, hb, by omega, fun i hi => hc i (by omega)⟩
/-- Blocks of different types are different ones. -/
theorem ne {b' t' n' : Nat} {f' : Nat → Value} (h : RowTo w b t n f) (h' : RowTo w b' t' n' f') (ht : t ≠ t') : b ≠ b' := by
  obtain ⟨c, hb, _, _⟩ := h
  obtain ⟨c', hb', _, _⟩ := h'
  intro e
  subst e
  rw [hb] at hb'
  simp only [Option.some.injEq, Obj.cells.injEq] at hb'
  exact ht hb'.2.1
theorem ofRow (h : w.rowIs b t n f) : RowTo w b t n f := by
  obtain ⟨c, hb, hn, hc⟩ := h
  exact ⟨c, hb, by omega, hc⟩
end RowTo
theorem RowTo.ofOwn {w : World} {base e n : Nat} {g cap : Nat} {x : List Value} {f : Nat → Value} (h : w.ownsRow base e 1 (.slice (some ⟨g, 0, none⟩) n cap) n x) (hx : ∀ i, i < n → x[i]? = some (f i)) : RowTo w g e n f := by
  have hl := h.1
  rcases h.2 with ⟨h0, _⟩ | ⟨g', cap', cur, h0, hb, hg, hn, hc, hs, ht⟩
  · cases h0
  · injection h0 with e1 e2 e3
    injection e1 with e1
    injection e1 with e1
    subst e1
    subst e3
    refine ⟨cur, hg, by rw [hs]; omega, fun i hi => ?_⟩
    have h2 := hx i hi
    rw [← ht] at h2
    rw [List.getElem?_take] at h2
    split at h2
    · simpa using h2
    · simp at h2

theorem wpList_append_zero {P : Program} (w : World) {ops : Array Oper} {rest : List Oper} {o : Oper} {a : Act} {Q : Exit → Act → World → Prop} (hgd : o.guard = none) (s x : Operand) (t : TypeId)
    (ho : o.op = .call { callee := .builtin .append, args := #[s, x], argTypes := #[t, t] })
    (e : TypeId) (i : TypeInfo) (ht : P.underlying t = some (.slice e)) (hi : P.info? e = some i)
    (ao : Option Addr) (c : Nat) (hs : a.eval s = .slice none 0 0) (hx : a.eval x = .slice ao 0 c)
    (h : wpList P ops Q rest (a.put o.dst (.slice none 0 0)) w) : wpList P ops Q (o :: rest) a w := by
  refine wpList_plain hgd fun K hK => ?_
  have hsrc : Src P i.size t (.slice ao 0 c) 0 [] w := by
    cases ao with
    | none => exact Src.ofNil w ht c
    | some ad => exact Src.ofSlice w ht ad 0 c [] (by simp) (by simp) (by simp)
  have hrun := run_append_nothing (P := P) w t t o.type e i ht hi none 0 0 (by omega) (.slice ao 0 c) hsrc
  unfold Oper.wp execOp
  simp only [ho, resolve, invoke, builtin, Sem.run_bind, Sem.run_pure, Result.andThen_ok, List.map_toArray, List.map_cons, List.map_nil, hs, hx, hrun]
  exact hK _ _ h

theorem range_get (f : Nat → Value) (m j : Nat) (h : j < m) : ((List.range m).map f)[j]? = some (f j) := by simp [h]
/-- 'append(nil, xs...)': a new row with what xs holds. -/
theorem wpList_append_copy {P : Program} (w : World) {ops : Array Oper} {rest : List Oper} {o : Oper} {a : Act} {Q : Exit → Act → World → Prop} (hgd : o.guard = none) (s x : Operand) (t : TypeId)
    (ho : o.op = .call { callee := .builtin .append, args := #[s, x], argTypes := #[t, t] })
    (e : TypeId) (i : TypeInfo) (z : Value) (bytes : Nat) (ht : P.underlying t = some (.slice e)) (hi : P.info? e = some i) (hz : i.zero = some z)
    (hsize : i.size = 1) (hby : i.bytes = bytes) (hzs : z.cells.size = 1)
    (b0 o0 m c : Nat) (f : Nat → Value) (hs : a.eval s = .slice none 0 0) (hx : a.eval x = .slice (some ⟨b0, o0, none⟩) m c) (hf : ∀ j, j < m → w.cell? ⟨b0, o0 + j, none⟩ = some (f j)) (h1 : ∀ j, (f j).oneCell' = true)
    (hm : 0 < m) (h63 : m ≤ maxLen) (hbytes : m * bytes ≤ 140737488355328)
    (h : ∀ cap w', RowTo w' w.heap.size e m f → w.grownBy w' none → wpList P ops Q rest (a.put o.dst (.slice (some ⟨w.heap.size, 0, none⟩) m cap)) w') : wpList P ops Q (o :: rest) a w := by
  refine wpList_append_fresh w hgd s x t ho w.heap.size e i z 1 bytes ht hi hz hsize hby hzs (by decide) (.slice none 0 0) 0 [] hs (World.ownsRow_nil _ _ _ _) ⟨b0, o0, none⟩ m c ((List.range m).map f) hx (by simp) ?_ ?_ hm (by simpa using h63) (by simpa using hbytes) (Nat.le_refl _) ?_
  · intro j u hu
    have hj : j < m := by
      have := (List.getElem?_eq_some_iff.1 hu).1
      simpa using this
    rw [range_get f m j hj] at hu
    have hadd : (⟨b0, o0, none⟩ : Addr).add j = ⟨b0, o0 + j, none⟩ := by unfold Addr.add; split <;> simp_all
    rw [hadd, hf j hj]; exact hu
  · intro u hu
    simp only [List.mem_map, List.mem_range] at hu
    obtain ⟨j, _, rfl⟩ := hu
    exact h1 j
  · intro g cap w' hown hg hfr
    have hgs : g = w.heap.size := by
      rcases hfr with h | h
      · simp [Value.ownBlock] at h
      · exact h
    subst hgs
    rw [Nat.zero_add] at hown ⊢
    exact h cap w' (RowTo.ofOwn hown (fun j hj => by simpa using range_get f m j hj)) hg
theorem RowTo.grown {w w2 : World} {b t n : Nat} {f : Nat → Value} (h : RowTo w b t n f) {base e s n' : Nat} {v : Value} {x : List Value} (ho : w.ownsRow base e s v n' x) (hne : t ≠ e) (hg : w.grownBy w2 v.ownBlock) : RowTo w2 b t n f := by
  refine h.of_block (hg.block b h.lt (fun e' => ?_))
  rcases ho.2 with ⟨rfl, _⟩ | ⟨g, cap, cur, rfl, _, hg', _⟩
  · simp [Value.ownBlock] at e'
  · simp only [Value.ownBlock, Option.some.injEq] at e'
    subst e'
    obtain ⟨c, hb, _, _⟩ := h
    rw [hb] at hg'
    simp only [Option.some.injEq, Obj.cells.injEq] at hg'
    exact hne hg'.2.1
theorem below_grown {w w2 : World} (hg : w.grownBy w2 none) : Below w.heap.size w w2 := ⟨hg.os, hg.tape, hg.output, hg.size, fun k hk => hg.block k hk (by simp)⟩
end Go.Proofs.YtpngikmcjkjdaaaGreatDoor
