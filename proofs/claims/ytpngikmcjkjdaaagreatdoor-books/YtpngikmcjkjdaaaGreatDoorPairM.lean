import Derived.Test.YtpngikmcjkjdaaaGreatDoorWideAdd
namespace Go.Proofs.YtpngikmcjkjdaaaGreatDoor
open Go.RowKit
set_option linter.unusedVariables false

def zs (n : Nat) : Array Value := Array.replicate n (.int .i64 0)
theorem zero_met (w : World) : Sem.run Tryz.prog (zeroValue 202) w = .ok (.agg (zs 1600)) w := by kernel_rfl
/-- The cells of the pairs. -/
def pcells (ps : List Nat) : List Value := ps.flatMap fun q => [.int .i64 ((q / 40 : Nat) : Int), .int .i64 ((q % 40 : Nat) : Int)]
theorem pcells_len (ps : List Nat) : (pcells ps).length = ps.length * 2 := by
  induction ps with
  | nil => rfl
  | cons q ps ih => simp only [pcells, List.flatMap_cons, List.length_append, List.length_cons, List.length_nil] at ih ⊢; omega
theorem pcells_snoc (ps : List Nat) (q : Nat) : pcells ps ++ [.int .i64 ((q / 40 : Nat) : Int), .int .i64 ((q % 40 : Nat) : Int)] = pcells (ps ++ [q]) := by simp [pcells]
theorem pcells_at (ps : List Nat) (k : Nat) (hk : k < ps.length) : (pcells ps)[k * 2]? = some (.int .i64 ((ps.getD k 0 / 40 : Nat) : Int)) ∧ (pcells ps)[k * 2 + 1]? = some (.int .i64 ((ps.getD k 0 % 40 : Nat) : Int)) := by
  induction ps generalizing k with
  | nil => simp at hk
  | cons q ps ih =>
    cases k with
    | zero => simp [pcells]
    | succ k =>
      have := ih k (by simpa using hk)
      have e1 : (k + 1) * 2 = k * 2 + 1 + 1 := by omega
      have e2 : (k + 1) * 2 + 1 = k * 2 + 1 + 1 + 1 := by omega
      rw [e1]
      simpa [pcells, List.getD_cons_succ] using this
/-- What 'met' holds. -/
def metv (ps : List Nat) (q : Nat) : Nat := if q ∈ ps then ps.idxOf q + 1 else 0
theorem metv_new (ps : List Nat) (q r : Nat) (hq : q ∉ ps) : metv (ps ++ [q]) r = if r = q then ps.length + 1 else metv ps r := by
  unfold metv
  by_cases e : r = q
  · subst e; simp [List.idxOf_append, hq]
  · by_cases h : r ∈ ps
    · simp [h, e, List.idxOf_append]
    · simp [h, e]

/-- The memory of pairUp. -/
structure PairMem (W : World) (B : Nat) (w : World) (ps : List Nat) (vp va vn : Value) (k k' : Nat) (xa xn : List Value) : Prop where
  blw : Below (B + 1 + 1) W w
  blk : w.heap[B + 1 + 1]? = some (.cells #[va, vn] 169 (0, 0))
  met : w.rowIs (B + 1 + 1 + 1) 202 1600 (fun q => .int .i64 (metv ps q : Nat))
  own0 : w.ownsRow (B + 1 + 1 + 1 + 1) 4 1 va k xa
  own1 : w.ownsRow (B + 1 + 1 + 1 + 1) 174 8 vn k' xn
  own2 : w.ownsRow (B + 1 + 1 + 1 + 1) 204 2 vp ps.length (pcells ps)

/-- The memory of a round: beside it the pair 'here' and the row. -/
structure RoundMem (W : World) (B H : Nat) (w : World) (ps : List Nat) (vp va vn : Value) (k : Nat) (xa xn : List Value) (i j : Nat) (r : Nat → Nat) : Prop where
  mem : PairMem W B w ps vp va vn k k xa xn
  here : w.heap[H]? = some (.cells #[.int .i64 (i : Int), .int .i64 (j : Int)] 204 (0, 0))
  rw : w.rowIs (H + 1) 174 8 (fun c => .int .i64 (r c : Nat))
  lo : B + 1 + 1 + 1 + 1 ≤ H
  dp : ∀ g, vp.ownBlock = some g → g ≠ H ∧ g ≠ H + 1
  da : ∀ g, va.ownBlock = some g → g < H
  dn : ∀ g, vn.ownBlock = some g → g < H

section
variable {W : World} {B H : Nat} {w w2 : World} {ps : List Nat} {vp va vn : Value} {k : Nat} {xa xn : List Value} {i j : Nat} {r : Nat → Nat}

theorem PairMem.alloc {k' : Nat} (h : PairMem W B w ps vp va vn k k' xa xn) (o : Obj) : PairMem W B (w.alloc o) ps vp va vn k k' xa xn where
  blw := h.blw.alloc (by have := heap_lt h.blk; omega) o
  blk := heap_at_old h.blk
  met := h.met.alloc o
  own0 := h.own0.alloc o
  own1 := h.own1.alloc o
  own2 := h.own2.alloc o
theorem RoundMem.alloc (h : RoundMem W B H w ps vp va vn k xa xn i j r) (o : Obj) : RoundMem W B H (w.alloc o) ps vp va vn k xa xn i j r :=
  ⟨h.mem.alloc o, heap_at_old h.here, h.rw.alloc o, h.lo, h.dp, h.da, h.dn⟩

/-- The pairs' row has grown. -/
theorem RoundMem.grown (h : RoundMem W B H w ps vp va vn k xa xn i j r) {q g cap : Nat} (hown : w2.ownsRow (B + 1 + 1 + 1 + 1) 204 2 (.slice (some ⟨g, 0, none⟩) (ps.length + 1) cap) (ps.length + 1) (pcells (ps ++ [q])))
    (hg : w.grownBy w2 vp.ownBlock) (hf : vp.ownBlock = some g ∨ g = w.heap.size) :
    Below (B + 1 + 1) W w2 ∧ w2.heap[B + 1 + 1]? = some (.cells #[va, vn] 169 (0, 0)) ∧ w2.rowIs (B + 1 + 1 + 1) 202 1600 (fun q => .int .i64 (metv ps q : Nat)) ∧
      w2.ownsRow (B + 1 + 1 + 1 + 1) 4 1 va k xa ∧ w2.ownsRow (B + 1 + 1 + 1 + 1) 174 8 vn k xn ∧
      w2.heap[H]? = some (.cells #[.int .i64 (i : Int), .int .i64 (j : Int)] 204 (0, 0)) ∧ w2.rowIs (H + 1) 174 8 (fun c => .int .i64 (r c : Nat)) ∧ (g ≠ H ∧ g ≠ H + 1) := by
  have hm := h.mem
  have hsz := heap_lt hm.blk
  have hlt := fun x e => hm.own2.lt x e
  have hH := heap_lt h.here
  have hH1 := h.rw.lt
  refine ⟨hm.blw.grown hg (by omega) (fun x e => by have := (hlt x e).1; omega), ?_, rowIs_grown hm.met hg (fun e => by have := (hlt _ e).1; omega), ?_, ?_, ?_, rowIs_grown h.rw hg (fun e => (h.dp _ e).2 rfl), ?_⟩
  · rw [hg.block _ hsz (fun e => by have := (hlt _ e.symm).1; omega)]; exact hm.blk
  · refine hm.own0.kept hg ?_
    cases hv : va.ownBlock with
    | none => exact .inl rfl
    | some x => exact .inr (fun e => own_apart hm.own0 hm.own2 (by decide) x hv e.symm)
  · refine hm.own1.kept hg ?_
    cases hv : vn.ownBlock with
    | none => exact .inl rfl
    | some x => exact .inr (fun e => own_apart hm.own1 hm.own2 (by decide) x hv e.symm)
  · rw [hg.block _ hH (fun e => (h.dp _ e.symm).1 rfl)]; exact h.here
  · rcases hf with hf | rfl
    · exact h.dp g hf
    · omega

/-- A new pair: met is marked, the row has its number. -/
theorem RoundMem.new (h : RoundMem W B H w ps vp va vn k xa xn i j r) {q g cap c : Nat} (hq : q ∉ ps) (hown : w2.ownsRow (B + 1 + 1 + 1 + 1) 204 2 (.slice (some ⟨g, 0, none⟩) (ps.length + 1) cap) (ps.length + 1) (pcells (ps ++ [q])))
    (hg : w.grownBy w2 vp.ownBlock) (hf : vp.ownBlock = some g ∨ g = w.heap.size) :
    RoundMem W B H ((w2.setCell ⟨B + 1 + 1 + 1, q, none⟩ (.int .i64 ((ps.length : Int) + 1))).setCell ⟨H + 1, c, none⟩ (.int .i64 (ps.length : Int))) (ps ++ [q]) (.slice (some ⟨g, 0, none⟩) (ps.length + 1) cap) va vn k xa xn i j (fun x => if x = c then ps.length else r x) := by
  obtain ⟨g1, g2, g3, g4, g5, g6, g7, g8⟩ := h.grown hown hg hf
  have hlo := h.lo
  refine ⟨⟨(g1.setCell (p := ⟨B + 1 + 1 + 1, q, none⟩) (by simp) _).setCell (p := ⟨H + 1, c, none⟩) (by simp; omega) _, heap_set_other (heap_set_other g2 (by simp)) (by simp; omega), ?_, ?_, ?_, ?_⟩,
    heap_set_other (heap_set_other g6 (by simp; omega)) (by simp), ?_, h.lo, ?_, h.da, h.dn⟩
  · refine ((g3.set q _).setOther (by simp; omega) _).congr (fun x _ => ?_)
    rw [metv_new ps q x hq]
    by_cases e : x = q
    · simp [e]
    · simp [e]
  · exact ownsRow_set (ownsRow_set g4 _ _ (fun x hx => by have := (g4.lt x hx).1; simp; omega)) _ _ (fun x hx => by have := h.da x hx; simp; omega)
  · exact ownsRow_set (ownsRow_set g5 _ _ (fun x hx => by have := (g5.lt x hx).1; simp; omega)) _ _ (fun x hx => by have := h.dn x hx; simp; omega)
  · simp only [List.length_append, List.length_singleton]
    exact ownsRow_set (ownsRow_set hown _ _ (fun x hx => by have := (hown.lt x hx).1; simp; omega)) _ _ (fun x hx => by simp only [Value.ownBlock, Option.some.injEq] at hx; subst hx; simpa using g8.2)
  · refine ((g7.setOther (a := ⟨B + 1 + 1 + 1, q, none⟩) (by simp; omega) _).set c _).congr (fun x _ => ?_)
    by_cases e : x = c
    · simp [e]
    · simp [e]
  · intro x hx
    simp only [Value.ownBlock, Option.some.injEq] at hx; subst hx; exact g8

/-- An old pair: the row has its number. -/
theorem RoundMem.old (h : RoundMem W B H w ps vp va vn k xa xn i j r) {c v : Nat} :
    RoundMem W B H (w.setCell ⟨H + 1, c, none⟩ (.int .i64 (v : Int))) ps vp va vn k xa xn i j (fun x => if x = c then v else r x) := by
  have hm := h.mem
  have hlo := h.lo
  refine ⟨⟨hm.blw.setCell (p := ⟨H + 1, c, none⟩) (by simp; omega) _, heap_set_other hm.blk (by simp; omega), hm.met.setOther (by simp; omega) _, ?_, ?_, ?_⟩, heap_set_other h.here (by simp), ?_, h.lo, h.dp, h.da, h.dn⟩
  · exact ownsRow_set hm.own0 _ _ (fun x hx => by have := h.da x hx; simp; omega)
  · exact ownsRow_set hm.own1 _ _ (fun x hx => by have := h.dn x hx; simp; omega)
  · exact ownsRow_set hm.own2 _ _ (fun x hx => by have := (h.dp x hx).2; simpa using this)
  · refine (h.rw.set c _).congr (fun x _ => ?_)
    by_cases e : x = c
    · simp [e]
    · simp [e]
theorem RoundMem.drewN (h : RoundMem W B H w ps vp va vn k xa xn i j r) (q : Nat) : RoundMem W B H (w.drewN q) ps vp va vn k xa xn i j r :=
  ⟨⟨below_drewN h.mem.blw q, h.mem.blk, h.mem.met, h.mem.own0, h.mem.own1, h.mem.own2⟩, h.here, h.rw, h.lo, h.dp, h.da, h.dn⟩

/-- The wide table has one more state. -/
theorem RoundMem.add (h : RoundMem W B H w ps vp va vn k xa xn i j r) {va' vn' : Value} {ya yn : List Value} (hb : w2.heap[B + 1 + 1]? = some (.cells #[va', vn'] 169 (0, 0)))
    (h0 : w2.ownsRow (B + 1 + 1 + 1 + 1) 4 1 va' (k + 1) ya) (h1 : w2.ownsRow (B + 1 + 1 + 1 + 1) 174 8 vn' (k + 1) yn)
    (ht : Touch (fun b => b = B + 1 + 1 ∨ va.ownBlock = some b ∨ vn.ownBlock = some b) w w2) : PairMem W B w2 ps vp va' vn' (k + 1) (k + 1) ya yn := by
  have hm := h.mem
  have hsz := heap_lt hm.blk
  refine ⟨ht.below hm.blw (by omega) ?_, hb, ht.row hm.met ?_, h0, h1, ht.own hm.own2 ?_⟩
  · rintro x (rfl | e | e)
    · omega
    · have := (hm.own0.lt _ e).1; omega
    · have := (hm.own1.lt _ e).1; omega
  · rintro (e | e | e)
    · omega
    · have := (hm.own0.lt _ e).1; omega
    · have := (hm.own1.lt _ e).1; omega
  · rintro g hg (rfl | e | e)
    · have := (hm.own2.lt _ hg).1; omega
    · exact own_apart hm.own2 hm.own0 (by decide) g hg e
    · exact own_apart hm.own2 hm.own1 (by decide) g hg e
theorem RoundMem.rcongr (h : RoundMem W B H w ps vp va vn k xa xn i j r) {r' : Nat → Nat} (e : ∀ x, x < 8 → r x = r' x) : RoundMem W B H w ps vp va vn k xa xn i j r' :=
  ⟨h.mem, h.here, h.rw.congr (fun x hx => by rw [e x hx]), h.lo, h.dp, h.da, h.dn⟩
end
end Go.Proofs.YtpngikmcjkjdaaaGreatDoor
