import Derived.Deep.AppendLies
import Derived.Deep.RegionLaw
import Derived.Test.YtpngikmcjkjdaabG1
import Derived.Test.YtpngikmcjkjdaabG3
import Derived.Test.YtpngikmcjkjdaabG4
set_option linter.unusedVariables false
set_option linter.unusedSimpArgs false
namespace Go.Proofs.Ytpngikmcjkjdaab
open Go.RowKit
set_option linter.unusedVariables false
def zs (n : Nat) : Array Value := Array.replicate n (.int .i64 0)
def pcells (ps : List Nat) : List Value := ps.flatMap fun q => [.int .i64 ((q / 40 : Nat) : Int), .int .i64 ((q % 40 : Nat) : Int)]
def metv (ps : List Nat) (q : Nat) : Nat := if q ∈ ps then ps.idxOf q + 1 else 0
theorem metv_new (ps : List Nat) (q r : Nat) (hq : q ∉ ps) : metv (ps ++ [q]) r = if r = q then ps.length + 1 else metv ps r := by
  unfold metv
  by_cases e : r = q
  · subst e; simp [List.idxOf_append, hq]
  · by_cases h : r ∈ ps
    · simp [h, e, List.idxOf_append]
    · simp [h, e]
structure PairMem (W : World) (B : Nat) (w : World) (ps : List Nat) (vp va vn : Value) (k k' : Nat) (xa xn : List Value) : Prop where
  blw : Below (B + 1 + 1) W w
  blk : w.heap[B + 1 + 1]? = some (.cells #[va, vn] 125 (0, 0))
  met : w.rowIs (B + 1 + 1 + 1) 129 1600 (fun q => .int .i64 (metv ps q : Nat))
  own0 : w.ownsRow (B + 1 + 1 + 1 + 1) 4 1 va k xa
  own1 : w.ownsRow (B + 1 + 1 + 1 + 1) 113 8 vn k' xn
  own2 : w.ownsRow (B + 1 + 1 + 1 + 1) 131 2 vp ps.length (pcells ps)
structure RoundMem (W : World) (B H : Nat) (w : World) (ps : List Nat) (vp va vn : Value) (k : Nat) (xa xn : List Value) (i j : Nat) (r : Nat → Nat) : Prop where
  mem : PairMem W B w ps vp va vn k k xa xn
  here : w.heap[H]? = some (.cells #[.int .i64 (i : Int), .int .i64 (j : Int)] 131 (0, 0))
  rw : w.rowIs (H + 1) 113 8 (fun c => .int .i64 (r c : Nat))
  lo : B + 1 + 1 + 1 + 1 ≤ H
  dp : ∀ g, vp.ownBlock = some g → g ≠ H ∧ g ≠ H + 1
  da : ∀ g, va.ownBlock = some g → g < H
  dn : ∀ g, vn.ownBlock = some g → g < H
section
variable {W : World} {B H : Nat} {w w2 : World} {ps : List Nat} {vp va vn : Value} {k : Nat} {xa xn : List Value} {i j : Nat} {r : Nat → Nat}
theorem PairMem.alloc {k' : Nat} (h : PairMem W B w ps vp va vn k k' xa xn) (o : Obj) : PairMem W B (w.alloc o) ps vp va vn k k' xa xn where
  blw := h.blw.alloc (by have := heap_lt h.blk; omega) o
  blk := heap_at_old h.blk
  met := h.met.alloc o
  own0 := h.own0.alloc o
  own1 := h.own1.alloc o
  own2 := h.own2.alloc o
theorem RoundMem.alloc (h : RoundMem W B H w ps vp va vn k xa xn i j r) (o : Obj) : RoundMem W B H (w.alloc o) ps vp va vn k xa xn i j r :=
  ⟨h.mem.alloc o, heap_at_old h.here, h.rw.alloc o, h.lo, h.dp, h.da, h.dn⟩
theorem RoundMem.grown (h : RoundMem W B H w ps vp va vn k xa xn i j r) {q g cap : Nat} (hown : w2.ownsRow (B + 1 + 1 + 1 + 1) 131 2 (.slice (some ⟨g, 0, none⟩) (ps.length + 1) cap) (ps.length + 1) (pcells (ps ++ [q])))
    (hg : w.grownBy w2 vp.ownBlock) (hf : vp.ownBlock = some g ∨ g = w.heap.size) :
    Below (B + 1 + 1) W w2 ∧ w2.heap[B + 1 + 1]? = some (.cells #[va, vn] 125 (0, 0)) ∧ w2.rowIs (B + 1 + 1 + 1) 129 1600 (fun q => .int .i64 (metv ps q : Nat)) ∧
      w2.ownsRow (B + 1 + 1 + 1 + 1) 4 1 va k xa ∧ w2.ownsRow (B + 1 + 1 + 1 + 1) 113 8 vn k xn ∧
      w2.heap[H]? = some (.cells #[.int .i64 (i : Int), .int .i64 (j : Int)] 131 (0, 0)) ∧ w2.rowIs (H + 1) 113 8 (fun c => .int .i64 (r c : Nat)) ∧ (g ≠ H ∧ g ≠ H + 1) := by
  have hm := h.mem
  have hsz := heap_lt hm.blk
  have hlt := fun x e => hm.own2.lt x e
  have hH := heap_lt h.here
  have hH1 := h.rw.lt
  refine ⟨hm.blw.grown hg (by omega) (fun x e => by have := (hlt x e).1; omega), ?_, rowIs_grown hm.met hg (fun e => by have := (hlt _ e).1; omega), ?_, ?_, ?_, rowIs_grown h.rw hg (fun e => (h.dp _ e).2 rfl), ?_⟩
  · rw [hg.block _ hsz (fun e => by have := (hlt _ e.symm).1; omega)]; exact hm.blk
  · refine hm.own0.kept hg ?_
    cases hv : va.ownBlock with
    | none => exact .inl rfl
    | some x => exact .inr (fun e => own_apart hm.own0 hm.own2 (by decide) x hv e.symm)
  · refine hm.own1.kept hg ?_
    cases hv : vn.ownBlock with
    | none => exact .inl rfl
    | some x => exact .inr (fun e => own_apart hm.own1 hm.own2 (by decide) x hv e.symm)
  · rw [hg.block _ hH (fun e => (h.dp _ e.symm).1 rfl)]; exact h.here
  · rcases hf with hf | rfl
    · exact h.dp g hf
    · omega
theorem RoundMem.new (h : RoundMem W B H w ps vp va vn k xa xn i j r) {q g cap c : Nat} (hq : q ∉ ps) (hown : w2.ownsRow (B + 1 + 1 + 1 + 1) 131 2 (.slice (some ⟨g, 0, none⟩) (ps.length + 1) cap) (ps.length + 1) (pcells (ps ++ [q])))
    (hg : w.grownBy w2 vp.ownBlock) (hf : vp.ownBlock = some g ∨ g = w.heap.size) :
    RoundMem W B H ((w2.setCell ⟨B + 1 + 1 + 1, q, none⟩ (.int .i64 ((ps.length : Int) + 1))).setCell ⟨H + 1, c, none⟩ (.int .i64 (ps.length : Int))) (ps ++ [q]) (.slice (some ⟨g, 0, none⟩) (ps.length + 1) cap) va vn k xa xn i j (fun x => if x = c then ps.length else r x) := by
  obtain ⟨g1, g2, g3, g4, g5, g6, g7, g8⟩ := h.grown hown hg hf
  have hlo := h.lo
  refine ⟨⟨(g1.setCell (p := ⟨B + 1 + 1 + 1, q, none⟩) (by simp) _).setCell (p := ⟨H + 1, c, none⟩) (by simp; omega) _, heap_set_other (heap_set_other g2 (by simp)) (by simp; omega), ?_, ?_, ?_, ?_⟩,
    heap_set_other (heap_set_other g6 (by simp; omega)) (by simp), ?_, h.lo, ?_, h.da, h.dn⟩
  · refine ((g3.set q _).setOther (by simp; omega) _).congr (fun x _ => ?_)
    rw [metv_new ps q x hq]
    by_cases e : x = q
    · simp [e]
    · simp [e]
  · exact ownsRow_set (ownsRow_set g4 _ _ (fun x hx => by have := (g4.lt x hx).1; simp; omega)) _ _ (fun x hx => by have := h.da x hx; simp; omega)
  · exact ownsRow_set (ownsRow_set g5 _ _ (fun x hx => by have := (g5.lt x hx).1; simp; omega)) _ _ (fun x hx => by have := h.dn x hx; simp; omega)
  · simp only [List.length_append, List.length_singleton]
    exact ownsRow_set (ownsRow_set hown _ _ (fun x hx => by have := (hown.lt x hx).1; simp; omega)) _ _ (fun x hx => by simp only [Value.ownBlock, Option.some.injEq] at hx; subst hx; simpa using g8.2)
  · refine ((g7.setOther (a := ⟨B + 1 + 1 + 1, q, none⟩) (by simp; omega) _).set c _).congr (fun x _ => ?_)
    by_cases e : x = c
    · simp [e]
    · simp [e]
  · intro x hx
    simp only [Value.ownBlock, Option.some.injEq] at hx; subst hx; exact g8
theorem RoundMem.old (h : RoundMem W B H w ps vp va vn k xa xn i j r) {c v : Nat} :
    RoundMem W B H (w.setCell ⟨H + 1, c, none⟩ (.int .i64 (v : Int))) ps vp va vn k xa xn i j (fun x => if x = c then v else r x) := by
  have hm := h.mem
  have hlo := h.lo
  refine ⟨⟨hm.blw.setCell (p := ⟨H + 1, c, none⟩) (by simp; omega) _, heap_set_other hm.blk (by simp; omega), hm.met.setOther (by simp; omega) _, ?_, ?_, ?_⟩, heap_set_other h.here (by simp), ?_, h.lo, h.dp, h.da, h.dn⟩
  · exact ownsRow_set hm.own0 _ _ (fun x hx => by have := h.da x hx; simp; omega)
  · exact ownsRow_set hm.own1 _ _ (fun x hx => by have := h.dn x hx; simp; omega)
  · exact ownsRow_set hm.own2 _ _ (fun x hx => by have := (h.dp x hx).2; simpa using this)
  · refine (h.rw.set c _).congr (fun x _ => ?_)
    by_cases e : x = c
    · simp [e]
    · simp [e]
theorem RoundMem.drewN (h : RoundMem W B H w ps vp va vn k xa xn i j r) (q : Nat) : RoundMem W B H (w.drewN q) ps vp va vn k xa xn i j r :=
  ⟨⟨below_drewN h.mem.blw q, h.mem.blk, h.mem.met, h.mem.own0, h.mem.own1, h.mem.own2⟩, h.here, h.rw, h.lo, h.dp, h.da, h.dn⟩
theorem RoundMem.add (h : RoundMem W B H w ps vp va vn k xa xn i j r) {va' vn' : Value} {ya yn : List Value} (hb : w2.heap[B + 1 + 1]? = some (.cells #[va', vn'] 125 (0, 0)))
    (h0 : w2.ownsRow (B + 1 + 1 + 1 + 1) 4 1 va' (k + 1) ya) (h1 : w2.ownsRow (B + 1 + 1 + 1 + 1) 113 8 vn' (k + 1) yn)
    (ht : Touch (fun b => b = B + 1 + 1 ∨ va.ownBlock = some b ∨ vn.ownBlock = some b) w w2) : PairMem W B w2 ps vp va' vn' (k + 1) (k + 1) ya yn := by
  have hm := h.mem
  have hsz := heap_lt hm.blk
  refine ⟨ht.below hm.blw (by omega) ?_, hb, ht.row hm.met ?_, h0, h1, ht.own hm.own2 ?_⟩
  · rintro x (rfl | e | e)
    · omega
    · have := (hm.own0.lt _ e).1; omega
    · have := (hm.own1.lt _ e).1; omega
  · rintro (e | e | e)
    · omega
    · have := (hm.own0.lt _ e).1; omega
    · have := (hm.own1.lt _ e).1; omega
  · rintro g hg (rfl | e | e)
    · have := (hm.own2.lt _ hg).1; omega
    · exact own_apart hm.own2 hm.own0 (by decide) g hg e
    · exact own_apart hm.own2 hm.own1 (by decide) g hg e
theorem RoundMem.rcongr (h : RoundMem W B H w ps vp va vn k xa xn i j r) {r' : Nat → Nat} (e : ∀ x, x < 8 → r x = r' x) : RoundMem W B H w ps vp va vn k xa xn i j r' :=
  ⟨h.mem, h.here, h.rw.congr (fun x hx => by rw [e x hx]), h.lo, h.dp, h.da, h.dn⟩
end
end Go.Proofs.Ytpngikmcjkjdaab

namespace Go.Proofs.Ytpngikmcjkjdaab
open Go.RowKit
set_option linter.unusedVariables false
def rcells (X : Nat → Nat → Nat) : Nat → List Value
  | 0 => []
  | k + 1 => rcells X k ++ (List.range 8).map fun c => .int .i64 ((X k c : Nat) : Int)
def acells (A : Nat → Bool) : Nat → List Value
  | 0 => []
  | k + 1 => acells A k ++ [.bool (A k)]
theorem rcells_congr {X Y : Nat → Nat → Nat} {k : Nat} (h : ∀ i c, i < k → c < 8 → X i c = Y i c) : rcells X k = rcells Y k := by
  induction k with
  | zero => rfl
  | succ k ih =>
    simp only [rcells]
    rw [ih (fun i c hi hc => h i c (by omega) hc)]
    congr 1
    apply List.map_congr_left
    intro c hc
    rw [h k c (by omega) (by simpa using hc)]
theorem pn_new {good : Nat → Prop} {S : Nat → Nat → Nat} {ps : List Nat} {p q : Nat} (h : PRel good S ps p) (i c : Nat) (hc : c < 8) (hr : 8 * i + c < p) : pn S (ps ++ [q]) i c = pn S ps i c := by
  have hc := h.clo _ hr
  rw [show (8 * i + c) / 8 = i by omega, show (8 * i + c) % 8 = c by omega] at hc
  simp only [pn]
  rw [getD_app _ _ _ hc.1, List.idxOf_append, if_pos hc.2]
theorem acells_len (A : Nat → Bool) (k : Nat) : (acells A k).length = k := by
  induction k with
  | zero => rfl
  | succ k ih => simp [acells, ih]
theorem rcells_len (X : Nat → Nat → Nat) (k : Nat) : (rcells X k).length = k * 8 := by
  induction k with
  | zero => rfl
  | succ k ih => simp only [rcells, List.length_append, ih, List.length_map, List.length_range]; omega
theorem acells_at (A : Nat → Bool) (k i : Nat) (hi : i < k) : (acells A k)[i]? = some (.bool (A i)) := by
  induction k with
  | zero => omega
  | succ k ih =>
    simp only [acells]
    by_cases e : i = k
    · subst e; rw [List.getElem?_append_right (by rw [acells_len]; exact Nat.le_refl _), acells_len]; simp
    · rw [List.getElem?_append_left (by rw [acells_len]; omega)]; exact ih (by omega)
theorem rcells_at (X : Nat → Nat → Nat) (k i c : Nat) (hi : i < k) (hc : c < 8) : (rcells X k)[i * 8 + c]? = some (.int .i64 ((X i c : Nat) : Int)) := by
  induction k with
  | zero => omega
  | succ k ih =>
    simp only [rcells]
    by_cases e : i = k
    · subst e
      rw [List.getElem?_append_right (by rw [rcells_len]; omega), rcells_len, show i * 8 + c - i * 8 = c by omega]
      simp [hc]
    · rw [List.getElem?_append_left (by rw [rcells_len]; omega)]; exact ih (by omega)
end Go.Proofs.Ytpngikmcjkjdaab

namespace Go.Proofs.Ytpngikmcjkjdaab
open Go.RowKit
set_option linter.unusedVariables false
def scells (R C : Nat → Nat) (k : Nat) : List Value := (List.range k).map fun i => .slice (some ⟨R i, 0, none⟩) 8 (C i)
def icells (X : Nat → Nat) (k : Nat) : List Value := (List.range k).map fun c : Nat => .int .i64 ((X c : Nat) : Int)
theorem scells_succ (R C : Nat → Nat) (k : Nat) : scells R C (k + 1) = scells R C k ++ [.slice (some ⟨R k, 0, none⟩) 8 (C k)] := by simp [scells, List.range_succ]
theorem icells_succ (X : Nat → Nat) (k : Nat) : icells X (k + 1) = icells X k ++ [.int .i64 ((X k : Nat) : Int)] := by simp [icells, List.range_succ]
structure BuildMem (W : World) (b : Nat) (w : World) (va vn : Value) (ka kn : Nat) (A : Nat → Bool) (R C : Nat → Nat) (X : Nat → Nat → Nat) : Prop where
  two : TwoRows W b 30 4 1 22 1 w va vn ka kn (acells A ka) (scells R C kn)
  rows : ∀ i, i < kn → w.ownsRow (b + 1) 3 1 (.slice (some ⟨R i, 0, none⟩) 8 (C i)) 8 (icells (X i) 8)
section
variable {W : World} {b : Nat} {w w1 w2 : World} {va vn vr : Value} {ka kn : Nat} {A : Nat → Bool} {R C : Nat → Nat} {X : Nat → Nat → Nat} {c : Nat} {x : List Value}
theorem BuildMem.start (hb : Below b W w) (hk : w.heap[b]? = some (.cells #[.slice none 0 0, .slice none 0 0] 30 (0, 0))) : BuildMem W b w (.slice none 0 0) (.slice none 0 0) 0 0 A R C X :=
  ⟨⟨hb, hk, World.ownsRow_nil _ _ _ _, World.ownsRow_nil _ _ _ _, by intro g h; simp [Value.ownBlock] at h⟩, fun i hi => absurd hi (by omega)⟩
theorem BuildMem.below (h : BuildMem W b w va vn ka kn A R C X) (hb : Below w.heap.size w w1) : BuildMem W b w1 va vn ka kn A R C X :=
  ⟨h.two.below hb, fun i hi => ownsRow_below (h.rows i hi) hb⟩
theorem BuildMem.acc (h : BuildMem W b w va vn ka kn A R C X) {g cap : Nat} (hown : w2.ownsRow (b + 1) 4 1 (.slice (some ⟨g, 0, none⟩) (ka + 1) cap) (ka + 1) (acells A ka ++ [.bool (A ka)])) (hg : w.grownBy w2 va.ownBlock) (hf : va.ownBlock = some g ∨ g = w.heap.size) :
    BuildMem W b (w2.setCell ⟨b, 0, none⟩ (.slice (some ⟨g, 0, none⟩) (ka + 1) cap)) (.slice (some ⟨g, 0, none⟩) (ka + 1) cap) vn (ka + 1) kn A R C X := by
  refine ⟨h.two.put0 hown hg hf, fun i hi => ownsRow_setCell_below ((h.rows i hi).kept hg (.inr (fun e => own_apart (h.rows i hi) h.two.own0 (by decide) _ rfl e.symm))) (by simp) _⟩
theorem BuildMem.grown (h : BuildMem W b w va vn ka kn A R C X) (hr : w.ownsRow (b + 1) 3 1 vr c x) (hd : ∀ i, i < kn → vr.ownBlock ≠ some (R i)) (hg : w.grownBy w2 vr.ownBlock) : BuildMem W b w2 va vn ka kn A R C X := by
  have hsz := heap_lt h.two.blk
  refine ⟨⟨h.two.blw.grown hg (by omega) (fun k e => by have := (hr.lt k e).1; omega), ?_, ?_, ?_, h.two.dis⟩, fun i hi => (h.rows i hi).kept hg (.inr (fun e => hd i hi e.symm))⟩
  · rw [hg.block b hsz (fun e => by have := (hr.lt b e.symm).1; omega)]; exact h.two.blk
  · refine h.two.own0.kept hg ?_
    cases hv : va.ownBlock with
    | none => exact .inl rfl
    | some k => exact .inr (fun e => own_apart h.two.own0 hr (by decide) k hv e.symm)
  · refine h.two.own1.kept hg ?_
    cases hv : vn.ownBlock with
    | none => exact .inl rfl
    | some k => exact .inr (fun e => own_apart h.two.own1 hr (by decide) k hv e.symm)
theorem BuildMem.nxt (h : BuildMem W b w va vn ka kn A R C X) {g cap gr cr : Nat} (hr : w.ownsRow (b + 1) 3 1 (.slice (some ⟨gr, 0, none⟩) 8 cr) 8 (icells (X kn) 8))
    (hown : w2.ownsRow (b + 1) 22 1 (.slice (some ⟨g, 0, none⟩) (kn + 1) cap) (kn + 1) (scells R C kn ++ [.slice (some ⟨gr, 0, none⟩) 8 cr])) (hg : w.grownBy w2 vn.ownBlock) (hf : vn.ownBlock = some g ∨ g = w.heap.size) :
    BuildMem W b (w2.setCell ⟨b, 1, none⟩ (.slice (some ⟨g, 0, none⟩) (kn + 1) cap)) va (.slice (some ⟨g, 0, none⟩) (kn + 1) cap) ka (kn + 1) A (fun i => if i = kn then gr else R i) (fun i => if i = kn then cr else C i) X := by
  have es : scells R C kn ++ [.slice (some ⟨gr, 0, none⟩) 8 cr] = scells (fun i => if i = kn then gr else R i) (fun i => if i = kn then cr else C i) (kn + 1) := by
    rw [scells_succ]
    congr 1
    · simp only [scells]; apply List.map_congr_left; intro i hi; have : i < kn := by simpa using hi
      rw [if_neg (by omega), if_neg (by omega)]
    · simp
  refine ⟨?_, fun i hi => ?_⟩
  · have := h.two.put1 hown hg hf
    rw [es] at this; exact this
  · by_cases e : i = kn
    · subst e
      simp only [if_true]
      exact ownsRow_setCell_below (hr.kept hg (.inr (fun e => own_apart hr h.two.own1 (by decide) _ rfl e.symm))) (by simp) _
    · simp only [if_neg e]
      have h1 := h.rows i (by omega)
      exact ownsRow_setCell_below (h1.kept hg (.inr (fun e => own_apart h1 h.two.own1 (by decide) _ rfl e.symm))) (by simp) _
theorem BuildMem.done (h : BuildMem W b w va vn kn kn A R C X) (hk : 0 < kn) {N : Tab} (hn : N.n = kn) (ha : ∀ i, i < kn → N.acc i = A i) (hx : ∀ i c, i < kn → c < 8 → N.nxt i c = X i c) :
    ∃ V : Lay, va = .slice (some ⟨V.ba, V.oa, none⟩) kn V.ca ∧ vn = .slice (some ⟨V.bn, V.on, none⟩) kn V.cn ∧ TabAt w V N ∧ V.From (b + 1) kn := by
  obtain ⟨aa, ca, rfl, haa⟩ := ownsRow_shape h.two.own0
  obtain ⟨an, cn, rfl, han⟩ := ownsRow_shape h.two.own1
  obtain ⟨ga, rfl, h1⟩ := haa hk
  obtain ⟨gn, rfl, h2⟩ := han hk
  refine ⟨⟨ga, 0, ca, gn, 0, cn, R, fun _ => 0, C⟩, rfl, rfl, ⟨fun i hi => ?_, fun i hi => ?_, fun i c hi hc => ?_⟩, ⟨(h.two.own0.lt ga rfl).1, (h.two.own1.lt gn rfl).1, fun i hi => ((h.rows i hi).lt (R i) rfl).1⟩⟩
  · have hi' : i < kn := by omega
    simp only [Nat.zero_add]
    rw [h1 i (by omega), acells_at _ _ _ hi', ha i hi']
  · have hi' : i < kn := by omega
    simp only [Nat.zero_add]
    rw [h2 i (by omega)]; simp [scells, hi']
  · have hi' : i < kn := by omega
    simp only [Nat.zero_add]
    rw [(h.rows i hi').cellAt c (by omega), hx i c hi' hc]; simp [icells, hc]
end
end Go.Proofs.Ytpngikmcjkjdaab

namespace Go.Proofs.Ytpngikmcjkjdaab
open Go.RowKit
set_option linter.unusedVariables false
set_option linter.unusedSimpArgs false
set_option maxRecDepth 20000 in
set_option maxHeartbeats 2000000 in
theorem copy_ok (V : Lay) (M : Tab) (w : World) (hM : M.Ok) (hV : TabAt w V M) :
    Calls Try.prog 66 #[.agg #[.slice (some ⟨V.ba, V.oa, none⟩) M.n V.ca, .slice (some ⟨V.bn, V.on, none⟩) M.n V.cn]] w
      fun e w' => ∃ U : Lay, e = .returned (.agg #[.slice (some ⟨U.ba, U.oa, none⟩) M.n U.ca, .slice (some ⟨U.bn, U.on, none⟩) M.n U.cn]) ∧ TabAt w' U M ∧ U.From w.heap.size M.n ∧ Below w.heap.size w w' := by
  obtain ⟨i4, hi4, hz4, hz41, hz42⟩ := info_parts Try.info4
  obtain ⟨i3, hi3, hz3, hz31, hz32⟩ := info_parts Try.info3
  obtain ⟨iR, hiR, hzR, hzR1, hzR2⟩ := info_parts Try.infoR
  have l1 := hM.lo
  have l2 := hM.hi
  obtain ⟨W, hW⟩ : ∃ W, W = ((w.alloc (.cells #[.slice (some ⟨V.ba, V.oa, none⟩) M.n V.ca, .slice (some ⟨V.bn, V.on, none⟩) M.n V.cn] 30)).alloc (.cells #[.slice none 0 0, .slice none 0 0] 30)).alloc (.cells #[.slice none 0 0, .slice none 0 0] 30) := ⟨_, rfl⟩
  have BW : Below w.heap.size w W := by
    rw [hW]; exact (((Below.refl _ _).alloc (Nat.le_refl _) _).alloc (by simp) _).alloc (by simp; omega) _
  have hWs : W.heap.size = w.heap.size + 1 + 1 + 1 := by rw [hW]; simp
  have b0 : W.heap[w.heap.size]? = some (.cells #[.slice (some ⟨V.ba, V.oa, none⟩) M.n V.ca, .slice (some ⟨V.bn, V.on, none⟩) M.n V.cn] 30 (0, 0)) := by rw [hW]; exact heap_at_old (heap_at_old (heap_at_new (by simp)))
  have b1 : W.heap[w.heap.size + 1]? = some (.cells #[.slice none 0 0, .slice none 0 0] 30 (0, 0)) := by rw [hW]; exact heap_at_old (heap_at_new (by simp))
  have b2 : W.heap[w.heap.size + 1 + 1]? = some (.cells #[.slice none 0 0, .slice none 0 0] 30 (0, 0)) := by rw [hW]; exact heap_at_new (by simp)
  obtain ⟨y0, y1, _, _⟩ := cell_two b0
  go_enter Try.func66, Try.ntmps66
  go_wp2_with fail
  rw [← hW]
  clear hW
  go_loopw [14] (fun i' wr => ∃ i : Nat, ∃ va, i ≤ M.n ∧ i' = .int .i64 (i : Int) ∧ BuildMem W (w.heap.size + 1 + 1) wr va (.slice none 0 0) i 0 M.acc (fun _ => 0) (fun _ => 0) M.nxt) (fun i' _ => M.n - (intOf i').toNat)
  case atStart => exact ⟨0, _, by omega, rfl, BuildMem.start (Below.refl _ _) b2⟩
  case round =>
    obtain ⟨i, va, hi, rfl, hB⟩ := hrel
    have hbw : Below w.heap.size w wr := BW.trans (hB.two.blw.mono (by omega))
    obtain ⟨x0, x1, f0, f1⟩ := cell_two hB.two.blk
    have hsz := heap_lt hB.two.blk
    by_cases hlt : i < M.n
    · have z0 := (hV.below hbw).acc i hlt
      obtain ⟨bb, HBB⟩ : ∃ x, Hid (M.acc i = x) := ⟨_, rfl⟩
      rw [HBB.out] at z0
      have q1 : (i : Int) < (M.n : Int) := by omega
      have HBa : Hid (BuildMem W (w.heap.size + 1 + 1) (wr.alloc (.cells #[.bool bb] 4)) va (.slice none 0 0) i 0 M.acc (fun _ => 0) (fun _ => 0) M.nxt) := hB.below ((Below.refl _ _).alloc (Nat.le_refl _) _)
      have hna := HBa.out.two.own0
      obtain ⟨oa, oc, hva, _⟩ := ownsRow_shape hna
      subst hva
      have HACC : ∀ g cap' w2, w2.ownsRow (w.heap.size + 1 + 1 + 1) 4 1 (.slice (some ⟨g, 0, none⟩) (i + 1) cap') (i + 1) (acells M.acc i ++ [.bool bb]) → (wr.alloc (.cells #[.bool bb] 4)).grownBy w2 (Value.slice oa i oc).ownBlock → ((Value.slice oa i oc).ownBlock = some g ∨ g = (wr.alloc (.cells #[.bool bb] 4)).heap.size) →
          w2.cell? ⟨w.heap.size + 1 + 1, 0, none⟩ = some (.slice oa i oc) ∧ w2.frozen? ⟨w.heap.size + 1 + 1, 0, none⟩ = false ∧ Hid (BuildMem W (w.heap.size + 1 + 1) (w2.setCell ⟨w.heap.size + 1 + 1, 0, none⟩ (.slice (some ⟨g, 0, none⟩) (i + 1) cap')) (.slice (some ⟨g, 0, none⟩) (i + 1) cap') (.slice none 0 0) (i + 1) 0 M.acc (fun _ => 0) (fun _ => 0) M.nxt) := by
        intro g cap' w2 ho hg hf
        rw [← HBB.out] at ho
        obtain ⟨e0, _, e2, _⟩ := cell_two (HBa.out.two.grown0 hg)
        exact ⟨e0, e2, HBa.out.acc ho hg hf⟩
      clear hB hbw hV
      go_wp2_with (at_builtin; refine wpList_append_fresh _ rfl _ _ 27 rfl (w.heap.size + 1 + 1 + 1) 4 i4 (.bool false) 1 1 Try.underlying27 hi4 hz4 hz41 hz42 rfl (by decide) _ i (acells M.acc i) rfl hna ⟨wr.heap.size, 0, none⟩ 1 1 [.bool bb] rfl rfl (cell_one_new _ _ _) (by intro u hu; simp at hu; subst hu; rfl) (by decide) (by unfold maxLen; omega) (by omega) (by simp; omega) ?_; intro g cap' w2 hown hgr hfr; obtain ⟨e0, e1, HN⟩ := HACC g cap' w2 hown hgr hfr; clear HACC hown hgr hfr)
      go_roundw
      case rel => exact ⟨i + 1, _, by omega, by go_num, HN.out⟩
      case measure => simp [intOf]; omega
    · have he : i = M.n := by omega
      have q1 : ¬ (i : Int) < (M.n : Int) := by omega
      subst he
      have HB : Hid (BuildMem W (w.heap.size + 1 + 1) wr va (.slice none 0 0) M.n 0 M.acc (fun _ => 0) (fun _ => 0) M.nxt) := hB
      obtain ⟨r0, r1, _, _⟩ := cell_two ((hB.two.blw.block _ (by omega)).trans b0)
      clear hB
      go_wp2_with fail
      go_loopw [28] (fun i' wi => ∃ i : Nat, ∃ vn R C, i ≤ M.n ∧ i' = .int .i64 (i : Int) ∧ BuildMem W (w.heap.size + 1 + 1) wi va vn M.n i M.acc R C M.nxt) (fun i' _ => M.n - (intOf i').toNat)
      case atStart => exact ⟨0, _, _, _, by omega, rfl, HB.out⟩
      case round =>
        obtain ⟨i, vn, R, C, hi2, rfl, hB⟩ := hrel
        rename World => wi
        have hbw2 : Below w.heap.size w wi := BW.trans (hB.two.blw.mono (by omega))
        have hsz2 := heap_lt hB.two.blk
        by_cases hlt : i < M.n
        · have q2 : (i : Int) < (M.n : Int) := by omega
          have z1 := (hV.below hbw2).row i hlt
          have HBX : Hid (BuildMem W (w.heap.size + 1 + 1) wi va vn M.n i M.acc R C M.nxt) := hB
          clear hB
          go_wp2_with fail
          go_loopw [8, 34] (fun vr c' wk => ∃ c : Nat, c ≤ 8 ∧ c' = .int .i64 (c : Int) ∧ BuildMem W (w.heap.size + 1 + 1) wk va vn M.n i M.acc R C M.nxt ∧ wk.ownsRow (w.heap.size + 1 + 1 + 1) 3 1 vr c (icells (M.nxt i) c) ∧ ∀ j, j < i → vr.ownBlock ≠ some (R j)) (fun _ c' _ => 8 - (intOf c').toNat)
          case atStart => exact ⟨0, by omega, rfl, HBX.out, World.ownsRow_nil _ _ _ _, by intro j _ h; simp [Value.ownBlock] at h⟩
          case round =>
            obtain ⟨c, hc, rfl, hBi, hr, hd⟩ := hrel
            rename World => wk
            have hbw3 : Below w.heap.size w wk := BW.trans (hBi.two.blw.mono (by omega))
            have hsz3 := heap_lt hBi.two.blk
            by_cases hl8 : c < 8
            · have z2 := (hV.below hbw3).cel i c hlt hl8
              obtain ⟨nv, HNV⟩ : ∃ x, Hid (M.nxt i c = x) := ⟨_, rfl⟩
              rw [HNV.out] at z2
              have HBi : Hid (BuildMem W (w.heap.size + 1 + 1) (wk.alloc (.cells #[.int .i64 (nv : Int)] 3)) va vn M.n i M.acc R C M.nxt) := hBi.below ((Below.refl _ _).alloc (Nat.le_refl _) _)
              have HD : Hid (∀ j, j < i → (u8 : Value).ownBlock ≠ some (R j)) := hd
              have hna := hr.alloc (.cells #[.int .i64 (nv : Int)] 3)
              have HRO : Hid (∀ j, j < i → R j < wk.heap.size) := fun j hj => ((hBi.rows j hj).lt (R j) rfl).2
              have q3 : (c : Int) < 8 := by omega
              clear hBi hd hr hbw3
              go_wp2_with (at_builtin; refine wpList_append_fresh _ rfl _ _ 22 rfl (w.heap.size + 1 + 1 + 1) 3 i3 (.int .i64 0) 1 8 Try.underlying22 hi3 hz3 hz31 hz32 rfl (by decide) _ c (icells (M.nxt i) c) rfl hna ⟨wk.heap.size, 0, none⟩ 1 1 [.int .i64 (nv : Int)] rfl rfl (cell_one_new _ _ _) (by intro u hu; simp at hu; subst hu; rfl) (by decide) (by unfold maxLen; omega) (by omega) (by simp; omega) ?_; intro g cap' w2 hown hgr hfr; have HO : Hid (w2.ownsRow (w.heap.size + 1 + 1 + 1) 3 1 (.slice (some ⟨g, 0, none⟩) (c + 1) cap') (c + 1) (icells (M.nxt i) c ++ [.int .i64 (nv : Int)])) := hown; have HG : Hid ((wk.alloc (.cells #[.int .i64 (nv : Int)] 3)).grownBy w2 (u8 : Value).ownBlock) := hgr; have HF : Hid ((u8 : Value).ownBlock = some g ∨ g = (wk.alloc (.cells #[.int .i64 (nv : Int)] 3)).heap.size) := hfr; clear hown hgr hfr)
              go_roundw
              case rel =>
                have ho := HO.out
                rw [show icells (M.nxt i) c ++ [.int .i64 (nv : Int)] = icells (M.nxt i) (c + 1) by rw [icells_succ, HNV.out]] at ho
                refine ⟨c + 1, by omega, by go_num, HBi.out.grown hna HD.out HG.out, ho, ?_⟩
                intro j hj e
                simp only [Value.ownBlock, Option.some.injEq] at e
                rcases HF.out with h' | h'
                · exact HD.out j hj (by subst e; exact h')
                · have := HRO.out j hj; simp at h'; omega
              case measure => simp [intOf]; omega
            · have he : c = 8 := by omega
              subst he
              obtain ⟨ar, cr, rfl, har⟩ := ownsRow_shape hr
              obtain ⟨gr, rfl, _⟩ := har (by omega)
              obtain ⟨y2, y3, g2, g3⟩ := cell_two hBi.two.blk
              have HBi : Hid (BuildMem W (w.heap.size + 1 + 1) (wk.alloc (.cells #[.slice (some ⟨gr, 0, none⟩) 8 cr] 22)) va vn M.n i M.acc R C M.nxt) := hBi.below ((Below.refl _ _).alloc (Nat.le_refl _) _)
              have hna := HBi.out.two.own1
              obtain ⟨na, nc, hvn, _⟩ := ownsRow_shape hna
              subst hvn
              have HR : Hid ((wk.alloc (.cells #[.slice (some ⟨gr, 0, none⟩) 8 cr] 22)).ownsRow (w.heap.size + 1 + 1 + 1) 3 1 (.slice (some ⟨gr, 0, none⟩) 8 cr) 8 (icells (M.nxt i) 8)) := hr.alloc _
              have HG1 : ∀ w2, (wk.alloc (.cells #[.slice (some ⟨gr, 0, none⟩) 8 cr] 22)).grownBy w2 (Value.slice na i nc).ownBlock → w2.cell? ⟨w.heap.size + 1 + 1, 1, none⟩ = some (.slice na i nc) ∧ w2.frozen? ⟨w.heap.size + 1 + 1, 1, none⟩ = false := fun w2 hg => by
                obtain ⟨_, e1, _, e3⟩ := cell_two (HBi.out.two.grown1 hg)
                exact ⟨e1, e3⟩
              have q3 : ¬ ((8 : Nat) : Int) < 8 := by omega
              clear hBi hd hr hbw3 har
              go_wp2_with (at_builtin; refine wpList_append_fresh _ rfl _ _ 28 rfl (w.heap.size + 1 + 1 + 1) 22 iR (.slice none 0 0) 1 24 Try.underlying28 hiR hzR hzR1 hzR2 rfl (by decide) _ i (scells R C i) rfl hna ⟨wk.heap.size, 0, none⟩ 1 1 [.slice (some ⟨gr, 0, none⟩) 8 cr] rfl rfl (cell_one_new _ _ _) (by intro u hu; simp at hu; subst hu; rfl) (by decide) (by unfold maxLen; omega) (by omega) (by simp; omega) ?_; intro g cap' w2 hown hgr hfr; obtain ⟨e1, e3⟩ := HG1 w2 hgr; have HO : Hid (w2.ownsRow (w.heap.size + 1 + 1 + 1) 22 1 (.slice (some ⟨g, 0, none⟩) (i + 1) cap') (i + 1) (scells R C i ++ [.slice (some ⟨gr, 0, none⟩) 8 cr])) := hown; have HG : Hid ((wk.alloc (.cells #[.slice (some ⟨gr, 0, none⟩) 8 cr] 22)).grownBy w2 (Value.slice na i nc).ownBlock) := hgr; have HF : Hid ((Value.slice na i nc).ownBlock = some g ∨ g = (wk.alloc (.cells #[.slice (some ⟨gr, 0, none⟩) 8 cr] 22)).heap.size) := hfr; clear hown hgr hfr HG1)
              go_roundw
              case rel => exact ⟨i + 1, _, _, _, by omega, by go_num, HBi.out.nxt HR.out HO.out HG.out HF.out⟩
              case measure => simp [intOf]; omega
        · have he : i = M.n := by omega
          have q2 : ¬ (i : Int) < (M.n : Int) := by omega
          subst he
          obtain ⟨U, rfl, rfl, hT, hF⟩ := hB.done (N := M) (by omega) rfl (fun _ _ => rfl) (fun _ _ _ _ => rfl)
          have hq : wi.heap[w.heap.size + 1]? = some (.cells #[.slice none 0 0, .slice none 0 0] 30 (0, 0)) := (hB.two.blw.block _ (by omega)).trans b1
          obtain ⟨q0', q1', p0, p1⟩ := cell_two hq
          obtain ⟨s0, s1, _, _⟩ := cell_two hB.two.blk
          have HT : Hid (TabAt wi U M) := hT
          have HBB : Hid (Below w.heap.size w wi) := hbw2
          clear hB hT hV
          go_wp2_with fail
          obtain ⟨r1, r2, r3⟩ := res_two (u := .slice (some ⟨U.ba, U.oa, none⟩) M.n U.ca) (v := .slice (some ⟨U.bn, U.on, none⟩) M.n U.cn) hq
          refine bodyPost_ret (v := .agg #[.slice (some ⟨U.ba, U.oa, none⟩) M.n U.ca, .slice (some ⟨U.bn, U.on, none⟩) M.n U.cn]) (by simp [results, Try.results66, go_sem, r1, r2]) rfl ?_
          exact ⟨U, rfl, HT.out.res (N := w.heap.size + 1 + 1 + 1) hF (by omega) _ _, hF.mono (by omega), below_res HBB.out (by omega) _ _⟩
end Go.Proofs.Ytpngikmcjkjdaab

namespace Go.Proofs.Ytpngikmcjkjdaab
open Go.RowKit
set_option linter.unusedVariables false
set_option maxRecDepth 20000 in
set_option maxHeartbeats 2000000 in
theorem wleast_ok (gw ga ca gn cn : Nat) (M : Tab) (L : List Nat → Bool) (bu : Nat) (w : World) (hM : WideAt w gw ga ca gn cn M) (hN : Numbered M) (hn : M.n ≤ 100000000) (hL : ∀ x, Notes x → M.accepts x = L x) (hb0 : 1 ≤ bu) (hb1 : bu ≤ 40) :
    Calls Try.prog 54 #[.pointer (some ⟨gw, 0, none⟩), .int .i64 bu] w (LeastPost L bu M.n w) := by
  obtain ⟨W, hW⟩ : ∃ W, W = w.alloc (.cells #[.slice none 0 0, .slice none 0 0] 30) := ⟨_, rfl⟩
  have BW : Below w.heap.size w W := by rw [hW]; exact (Below.refl _ _).alloc (Nat.le_refl _) _
  have hWs : w.heap.size < W.heap.size := by rw [hW]; simp
  have b2 : W.heap[w.heap.size]? = some (.cells #[.slice none 0 0, .slice none 0 0] 30 (0, 0)) := by rw [hW]; exact heap_at_new (by simp)
  have hM0 := hM.below BW
  have xp := hM.p1
  have hgw := lt_of_cell hM.p1
  have HO := inOrder_ok gn cn M W hM0.cel hN hn
  have HC := shrink_ok gw ga ca gn cn M bu W hM0 hb0 hb1 hN.pos hn hN.nx
  have HN : Hid (Numbered M) := hN
  have HL : Hid (∀ x, Notes x → M.accepts x = L x) := hL
  clear hN hL
  go_enter Try.func54, Try.ntmps54
  go_wp2_with fail
  rw [← hW]
  clear hW
  refine HO.mono ?_
  rintro e w1 ⟨rfl, hw1⟩
  obtain rfl : W = w1 := hw1.symm
  clear HO hw1
  go_wp2_with fail
  refine HC.mono ?_
  clear HC xp hgw
  rintro e w5 ⟨hB5, hcase⟩
  have a2 := (hB5.block _ (by omega)).trans b2
  have BW5 : Below w.heap.size w w5 := BW.trans (hB5.mono (by omega))
  have hs5 := hB5.size
  clear b2 hB5 BW
  obtain ⟨q0, q1, p0, p1⟩ := cell_two a2
  have hsa : w.heap.size < w5.heap.size := by omega
  rcases hcase with ⟨f, hs, V', hst, hle, rfl, hT, hF, hFr⟩ | ⟨rfl, hs, hgt, hlt, hap⟩
  · have HS : Hid _ := hst
    clear hst
    go_wp2_with fail
    obtain ⟨r1, r2⟩ := res_alloc (u := .slice (some ⟨V'.ba, V'.oa, none⟩) hs.length V'.ca) (v := .slice (some ⟨V'.bn, V'.on, none⟩) hs.length V'.cn) a2 (.cells #[.slice (some ⟨V'.ba, V'.oa, none⟩) hs.length V'.ca, .slice (some ⟨V'.bn, V'.on, none⟩) hs.length V'.cn] 30)
    refine bodyPost_ret (v := .tuple #[.agg #[.slice (some ⟨V'.ba, V'.oa, none⟩) hs.length V'.ca, .slice (some ⟨V'.bn, V'.on, none⟩) hs.length V'.cn], .int .i64 0]) (by simp [results, Try.results54, go_sem, r1, r2]) rfl ?_
    have hBe := (below_res BW5 (b := w.heap.size) (by omega) (.slice (some ⟨V'.ba, V'.oa, none⟩) hs.length V'.ca) (.slice (some ⟨V'.bn, V'.on, none⟩) hs.length V'.cn)).alloc (by simp; omega) (.cells #[.slice (some ⟨V'.ba, V'.oa, none⟩) hs.length V'.ca, .slice (some ⟨V'.bn, V'.on, none⟩) hs.length V'.cn] 30)
    have hTe := (hT.res hF (b := w.heap.size) (by omega) (.slice (some ⟨V'.ba, V'.oa, none⟩) hs.length V'.ca) (.slice (some ⟨V'.bn, V'.on, none⟩) hs.length V'.cn)).below ((Below.refl _ _).alloc (Nat.le_refl _) (.cells #[.slice (some ⟨V'.ba, V'.oa, none⟩) hs.length V'.ca, .slice (some ⟨V'.bn, V'.on, none⟩) hs.length V'.cn] 30))
    exact ⟨hBe, .inl ⟨_, V', merged_least HN.out HS.out HL.out, hle, rfl, hTe, hF.mono (by omega), ((hFr.set _ _ _).set _ _ _).below ((Below.refl _ _).alloc (Nat.le_refl _) _)⟩⟩
  · go_wp2_with fail
    obtain ⟨r1, r2⟩ := res_alloc (u := .slice none 0 0) (v := .slice none 0 0) a2 (.cells #[.slice none 0 0, .slice none 0 0] 30)
    refine bodyPost_ret (v := .tuple #[.agg #[.slice none 0 0, .slice none 0 0], .int .i64 5]) (by simp [results, Try.results54, go_sem, r1, r2]) rfl ?_
    have hBe := (below_res BW5 (b := w.heap.size) (by omega) (.slice none 0 0) (.slice none 0 0)).alloc (by simp; omega) (.cells #[.slice none 0 0, .slice none 0 0] 30)
    have hl := heads_le hs hlt hap
    exact ⟨hBe, .inr ⟨rfl, by omega, fun R hRl => by have := apart_le hRl HN.out HL.out hs hlt hap; omega⟩⟩
end Go.Proofs.Ytpngikmcjkjdaab

namespace Go.Proofs.Ytpngikmcjkjdaab
open Go.RowKit
set_option linter.unusedVariables false
theorem LeastPost.wrap {L : List Nat → Bool} {budget bound : Nat} {w w0 w1 : World} {e : Ending} (h : LeastPost L budget bound w0 e w1) (h0 : Below w.heap.size w w0) (hs : w.heap.size ≤ w0.heap.size) :
    ∃ a0 n0 c0 a1 n1 c1 er, e = .returned (.tuple #[.agg #[.slice a0 n0 c0, .slice a1 n1 c1], .int .i64 er]) ∧ Below w.heap.size w w1 ∧ Below w0.heap.size w0 w1 ∧
      ∀ b, w.heap.size ≤ b → b < w0.heap.size → LeastPost L budget bound w e ((w1.setCell ⟨b, 0, none⟩ (.slice a0 n0 c0)).setCell ⟨b, 1, none⟩ (.slice a1 n1 c1)) := by
  obtain ⟨hb, hc⟩ := h
  have hB := h0.trans (hb.mono hs)
  rcases hc with ⟨R, V, hR, hn, rfl, hT, hF, hFr⟩ | ⟨rfl, hlt, hR⟩
  · exact ⟨_, _, _, _, _, _, _, rfl, hB, hb, fun b h1 h2 => ⟨below_res hB h1 _ _, .inl ⟨R, V, hR, hn, rfl, hT.res hF h2 _ _, hF.mono hs, (hFr.set _ _ _).set _ _ _⟩⟩⟩
  · exact ⟨_, _, _, _, _, _, _, rfl, hB, hb, fun b h1 h2 => ⟨below_res hB h1 _ _, .inr ⟨rfl, hlt, hR⟩⟩⟩
theorem LeastPost.congr {L L' : List Nat → Bool} {budget bound : Nat} {w w' : World} {e : Ending} (h : LeastPost L budget bound w e w') (hL : ∀ x, Notes x → L x = L' x) : LeastPost L' budget bound w e w' := by
  obtain ⟨hb, hc⟩ := h
  refine ⟨hb, ?_⟩
  rcases hc with ⟨R, V, hR, hn, he, hT, hF, hFr⟩ | ⟨he, hlt, hR⟩
  · exact .inl ⟨R, V, ⟨hR.num, hR.apart, fun x hx => by rw [hR.lang x hx, hL x hx]⟩, hn, he, hT, hF, hFr⟩
  · exact .inr ⟨he, hlt, fun R' hR' => hR R' ⟨hR'.num, hR'.apart, fun x hx => by rw [hR'.lang x hx, hL x hx]⟩⟩
def allTab : Tab := ⟨1, fun _ => true, fun _ _ => 0⟩
theorem allTab_ok : allTab.Ok := ⟨by decide, by decide, fun _ _ _ _ => by show 0 < 1; decide⟩
end Go.Proofs.Ytpngikmcjkjdaab

namespace Go.Proofs.Ytpngikmcjkjdaab
open Go.RowKit
set_option linter.unusedVariables false
structure RLay where
  (aa an : Option Addr)
  (na ca nn cn : Nat)
  (ra : Nat → Option Addr)
  (rl rc : Nat → Nat)
structure RawAt (w : World) (r : RLay) (A : Nat → Bool) (X : Nat → Nat → Int) : Prop where
  la : r.na ≤ 9223372036854775807
  ln : r.nn ≤ 9223372036854775807
  lr : ∀ i, i < r.nn → r.rl i ≤ 9223372036854775807
  acc : ∀ i, i < r.na → ∃ b o, r.aa = some ⟨b, o, none⟩ ∧ w.cell? ⟨b, o + i, none⟩ = some (.bool (A i))
  row : ∀ i, i < r.nn → ∃ b o, r.an = some ⟨b, o, none⟩ ∧ w.cell? ⟨b, o + i, none⟩ = some (.slice (r.ra i) (r.rl i) (r.rc i))
  cel : ∀ i c, i < r.nn → c < r.rl i → ∃ b o, r.ra i = some ⟨b, o, none⟩ ∧ w.cell? ⟨b, o + c, none⟩ = some (.int .i64 (X i c))
theorem RawAt.below {w w' : World} {r : RLay} {A : Nat → Bool} {X : Nat → Nat → Int} (h : RawAt w r A X) (hb : Below w.heap.size w w') : RawAt w' r A X :=
  ⟨h.la, h.ln, h.lr, fun i hi => by obtain ⟨b, o, e, hc⟩ := h.acc i hi; exact ⟨b, o, e, by rw [(bcell hb).1 _ _ (lt_of_cell hc)]; exact hc⟩,
    fun i hi => by obtain ⟨b, o, e, hc⟩ := h.row i hi; exact ⟨b, o, e, by rw [(bcell hb).1 _ _ (lt_of_cell hc)]; exact hc⟩,
    fun i c hi hc => by obtain ⟨b, o, e, hcc⟩ := h.cel i c hi hc; exact ⟨b, o, e, by rw [(bcell hb).1 _ _ (lt_of_cell hcc)]; exact hcc⟩⟩
end Go.Proofs.Ytpngikmcjkjdaab

namespace Go.Proofs.Ytpngikmcjkjdaab
open Go.RowKit
set_option linter.unusedVariables false
set_option linter.unusedSimpArgs false
def freeC (c : Nat → Cu) : Nat := if (c 0).op = false then 0 else if (c 1).op = false then 1 else if (c 2).op = false then 2 else if (c 3).op = false then 3 else 4
theorem freeC_le (c : Nat → Cu) : freeC c ≤ 4 := by unfold freeC; repeat' split <;> try omega
theorem freeC_shut {c : Nat → Cu} (h : freeC c < 4) : (c (freeC c)).op = false := by
  unfold freeC at h ⊢
  by_cases a : (c 0).op = false
  · simp [a]
  · by_cases b : (c 1).op = false
    · simp [a, b]
    · by_cases d : (c 2).op = false
      · simp [a, b, d]
      · by_cases e : (c 3).op = false
        · simp [a, b, d, e]
        · simp [a, b, d, e] at h
theorem freeC_open {c : Nat → Cu} {i : Nat} (h : i < freeC c) : (c i).op = true := by
  have h4 := freeC_le c
  unfold freeC at h
  have k : ∀ j, ¬ (c j).op = false → (c j).op = true := fun j hj => by simpa using hj
  by_cases a : (c 0).op = false
  · simp [a] at h
  · by_cases b : (c 1).op = false
    · simp [a, b] at h; subst h; exact k 0 a
    · by_cases d : (c 2).op = false
      · simp [a, b, d] at h
        rcases (show i = 0 ∨ i = 1 by omega) with rfl | rfl
        · exact k 0 a
        · exact k 1 b
      · by_cases e : (c 3).op = false
        · simp [a, b, d, e] at h
          rcases (show i = 0 ∨ i = 1 ∨ i = 2 by omega) with rfl | rfl | rfl
          · exact k 0 a
          · exact k 1 b
          · exact k 2 d
        · simp [a, b, d, e] at h
          rcases (show i = 0 ∨ i = 1 ∨ i = 2 ∨ i = 3 by omega) with rfl | rfl | rfl | rfl
          · exact k 0 a
          · exact k 1 b
          · exact k 2 d
          · exact k 3 e
def openCu (U : Lay) (n : Nat) : Cu := ⟨true, .slice (some ⟨U.ba, U.oa, none⟩) n U.ca, .slice (some ⟨U.bn, U.on, none⟩) n U.cn, false, ByteArray.empty⟩
theorem TabAt.touch1 {w w' : World} {U : Lay} {M : Tab} {bx N : Nat} (h : TabAt w U M) (hU : U.From N M.n) (hT : Touch (fun k => k = bx) w w') (hb : bx < N) : TabAt w' U M := by
  have key : ∀ b o v, w.cell? ⟨b, o, none⟩ = some v → N ≤ b → w'.cell? ⟨b, o, none⟩ = some v := fun b o v hc hn => by
    have hl := lt_of_cell hc
    have hk := hT.block b hl (by omega)
    simp only [World.cell?] at hc ⊢
    rw [hk]; exact hc
  exact ⟨fun i hi => key _ _ _ (h.acc i hi) hU.1, fun i hi => key _ _ _ (h.row i hi) hU.2, fun i c hi hc => key _ _ _ (h.cel i c hi hc) (hU.3 i hi)⟩
theorem touch_drew1 {S : Nat → Prop} {w w' : World} (h : Touch S w w') : Touch S w w'.drew := ⟨h.os, h.tape, h.output, h.size, h.block⟩
set_option maxRecDepth 20000 in
set_option maxHeartbeats 8000000 in
theorem bopen_ok (V : Lay) (M : Tab) (w : World) (bx n : Nat) (t : Nat → ByteArray) (c : Nat → Cu) (hM : M.Ok) (hV : TabAt w V M) (h : BxAt w bx t n (cuv c)) (hf : freeC c < 4) :
    Calls Try.prog 48 #[.pointer (some ⟨bx, 0, none⟩), .agg #[.slice (some ⟨V.ba, V.oa, none⟩) M.n V.ca, .slice (some ⟨V.bn, V.on, none⟩) M.n V.cn]] w
      fun e w' => ∃ U : Lay, e = .returned (.tuple #[.int .i64 (freeC c : Int), .int .i64 0]) ∧ TabAt w' U M ∧ U.From w.heap.size M.n ∧ BxAt w' bx t n (cuv (setCu c (freeC c) (openCu U M.n))) ∧ Touch (fun k => k = bx) w w' := by
  have B1 : Below w.heap.size w (w.alloc (.cells #[.slice (some ⟨V.ba, V.oa, none⟩) M.n V.ca, .slice (some ⟨V.bn, V.on, none⟩) M.n V.cn] 30)) := (Below.refl _ _).alloc (Nat.le_refl _) _
  have hk0 : (w.alloc (.cells #[.slice (some ⟨V.ba, V.oa, none⟩) M.n V.ca, .slice (some ⟨V.bn, V.on, none⟩) M.n V.cn] 30)).heap[w.heap.size]? = some (.cells #[.slice (some ⟨V.ba, V.oa, none⟩) M.n V.ca, .slice (some ⟨V.bn, V.on, none⟩) M.n V.cn] 30 (0, 0)) := heap_at_new (by simp)
  have HV := valid_ok V M _ hM (hV.below B1)
  have HO : Hid (∀ i, i < freeC c → (c i).op = true) := fun i hi => freeC_open hi
  have HS : Hid ((c (freeC c)).op = false) := freeC_shut hf
  have HB : Hid (BxAt w bx t n (cuv c)) := h
  have HBl : bx < w.heap.size := World.rowIs.lt h
  have HT : Hid (TabAt w V M) := hV
  obtain ⟨f, HF⟩ : ∃ f, Hid (freeC c = f) := ⟨_, rfl⟩
  rw [HF.out] at hf HO HS ⊢
  clear h hV HF
  go_enter Try.func48, Try.ntmps48
  go_wp2_with fail
  refine HV.mono ?_
  rintro e w1 ⟨rfl, hb1⟩
  have B2 : Below w.heap.size w w1 := B1.trans (hb1.mono (by simp))
  have hk1 := (hb1.block _ (by simp)).trans hk0
  have hs1 := heap_lt hk1
  clear HV hb1 hk0 B1
  go_wp2_with fail
  go_loopw [6] (fun i' wr => ∃ i : Nat, i ≤ f ∧ i' = .int .i64 (i : Int) ∧ wr = w1) (fun i' _ => 4 - (intOf i').toNat)
  case atStart => exact ⟨0, by omega, rfl, rfl⟩
  case round =>
    obtain ⟨i, hi, rfl, rfl⟩ := hrel
    have hx := HB.out.below B2
    obtain ⟨x0, x1, _, _⟩ := cell_two hk1
    rcases (show i = 0 ∨ i = 1 ∨ i = 2 ∨ i = 3 by omega) with rfl | rfl | rfl | rfl
    · obtain ⟨c0, d0⟩ := hx.cu (k := 0) (by omega)
      by_cases hl : 0 < f
      · rw [HO.out 0 hl] at c0
        clear hx d0 hk1
        go_wp2_with fail
        go_roundw
        case rel => exact ⟨1, by omega, by go_num, trivial⟩
        case measure => simp [intOf]
      · obtain rfl : f = 0 := by omega
        rw [HS.out] at c0
        have f0 := World.rowIs.frozen hx 61
        have HC := copy_ok V M wr hM (HT.out.below B2)
        clear d0 hk1 hl hi hx
        go_wp2_with fail
        refine HC.mono ?_
        rintro e w2 ⟨U, rfl, hU, hUF, hb2⟩
        have hx2 := (HB.out.below B2).below hb2
        have B3 : Below w.heap.size w w2 := B2.trans (hb2.mono (by omega))
        have hs2 := hb2.size
        obtain ⟨W3, hW3⟩ : ∃ W, W = w2.alloc (.cells #[.slice (some ⟨U.ba, U.oa, none⟩) M.n U.ca, .slice (some ⟨U.bn, U.on, none⟩) M.n U.cn] 30) := ⟨_, rfl⟩
        have B4 : Below w2.heap.size w2 W3 := by rw [hW3]; exact (Below.refl _ _).alloc (Nat.le_refl _) _
        have hk3 : W3.heap[w2.heap.size]? = some (.cells #[.slice (some ⟨U.ba, U.oa, none⟩) M.n U.ca, .slice (some ⟨U.bn, U.on, none⟩) M.n U.cn] 30 (0, 0)) := by rw [hW3]; exact heap_at_new (by simp)
        obtain ⟨y0, y1, _, _⟩ := cell_two hk3
        have hx3 := hx2.below B4
        have g0 := World.rowIs.frozen hx3 61
        have g1 := World.rowIs.frozen hx3 (61 + 1)
        have g2 := World.rowIs.frozen hx3 (61 + 2)
        have g3 := World.rowIs.frozen hx3 (61 + 3)
        have g4 := World.rowIs.frozen hx3 (61 + 4)
        obtain ⟨d0, d1, d2, d3, d4⟩ := hx3.cu (k := 0) (by omega)
        have HU : Hid (TabAt W3 U M) := hU.below B4
        have HX3 : Hid (BxAt W3 bx t n (cuv c)) := hx3
        have B5 : Below w.heap.size w W3 := B3.trans (B4.mono (by omega))
        clear HC hU hx2 hb2 hx3 hk3 B4 f0 c0 x0 x1
        go_wp2_with fail
        rw [← hW3]
        clear hW3
        go_region
        go_wp2_with fail
        go_ret2
        obtain ⟨WF, hWF⟩ : ∃ W, W = ((((W3.setCell ⟨bx, 61, none⟩ (.bool true)).setCell ⟨bx, 62, none⟩ (.slice (some ⟨U.ba, U.oa, none⟩) M.n U.ca)).setCell ⟨bx, 63, none⟩ (.slice (some ⟨U.bn, U.on, none⟩) M.n U.cn)).setCell ⟨bx, 64, none⟩ (.bool false)).setCell ⟨bx, 65, none⟩ (.string ⟨#[]⟩) := ⟨_, rfl⟩
        have hp : BxAt WF bx t n (cuv (setCu c 0 (openCu U M.n))) ∧ Touch (fun k => k = bx) W3 WF := by rw [hWF]; exact HX3.out.put (k := 0) (by omega) (openCu U M.n)
        rw [← hWF]
        clear hWF
        have hT := touch_drew1 hp.2
        exact ⟨U, rfl, HU.out.touch1 hUF hT (by omega), hUF.mono (by omega), hp.1, touch_then' (touch_of_below' B5) hT⟩
    · obtain ⟨c0, d0⟩ := hx.cu (k := 1) (by omega)
      by_cases hl : 1 < f
      · rw [HO.out 1 hl] at c0
        clear hx d0 hk1
        go_wp2_with fail
        go_roundw
        case rel => exact ⟨2, by omega, by go_num, trivial⟩
        case measure => simp [intOf]
      · obtain rfl : f = 1 := by omega
        rw [HS.out] at c0
        have f0 := World.rowIs.frozen hx 66
        have HC := copy_ok V M wr hM (HT.out.below B2)
        clear d0 hk1 hl hi hx
        go_wp2_with fail
        refine HC.mono ?_
        rintro e w2 ⟨U, rfl, hU, hUF, hb2⟩
        have hx2 := (HB.out.below B2).below hb2
        have B3 : Below w.heap.size w w2 := B2.trans (hb2.mono (by omega))
        have hs2 := hb2.size
        obtain ⟨W3, hW3⟩ : ∃ W, W = w2.alloc (.cells #[.slice (some ⟨U.ba, U.oa, none⟩) M.n U.ca, .slice (some ⟨U.bn, U.on, none⟩) M.n U.cn] 30) := ⟨_, rfl⟩
        have B4 : Below w2.heap.size w2 W3 := by rw [hW3]; exact (Below.refl _ _).alloc (Nat.le_refl _) _
        have hk3 : W3.heap[w2.heap.size]? = some (.cells #[.slice (some ⟨U.ba, U.oa, none⟩) M.n U.ca, .slice (some ⟨U.bn, U.on, none⟩) M.n U.cn] 30 (0, 0)) := by rw [hW3]; exact heap_at_new (by simp)
        obtain ⟨y0, y1, _, _⟩ := cell_two hk3
        have hx3 := hx2.below B4
        have g0 := World.rowIs.frozen hx3 66
        have g1 := World.rowIs.frozen hx3 (66 + 1)
        have g2 := World.rowIs.frozen hx3 (66 + 2)
        have g3 := World.rowIs.frozen hx3 (66 + 3)
        have g4 := World.rowIs.frozen hx3 (66 + 4)
        obtain ⟨d0, d1, d2, d3, d4⟩ := hx3.cu (k := 1) (by omega)
        have HU : Hid (TabAt W3 U M) := hU.below B4
        have HX3 : Hid (BxAt W3 bx t n (cuv c)) := hx3
        have B5 : Below w.heap.size w W3 := B3.trans (B4.mono (by omega))
        clear HC hU hx2 hb2 hx3 hk3 B4 f0 c0 x0 x1
        go_wp2_with fail
        rw [← hW3]
        clear hW3
        go_region
        go_wp2_with fail
        go_ret2
        obtain ⟨WF, hWF⟩ : ∃ W, W = ((((W3.setCell ⟨bx, 66, none⟩ (.bool true)).setCell ⟨bx, 67, none⟩ (.slice (some ⟨U.ba, U.oa, none⟩) M.n U.ca)).setCell ⟨bx, 68, none⟩ (.slice (some ⟨U.bn, U.on, none⟩) M.n U.cn)).setCell ⟨bx, 69, none⟩ (.bool false)).setCell ⟨bx, 70, none⟩ (.string ⟨#[]⟩) := ⟨_, rfl⟩
        have hp : BxAt WF bx t n (cuv (setCu c 1 (openCu U M.n))) ∧ Touch (fun k => k = bx) W3 WF := by rw [hWF]; exact HX3.out.put (k := 1) (by omega) (openCu U M.n)
        rw [← hWF]
        clear hWF
        have hT := touch_drew1 hp.2
        exact ⟨U, rfl, HU.out.touch1 hUF hT (by omega), hUF.mono (by omega), hp.1, touch_then' (touch_of_below' B5) hT⟩
    · obtain ⟨c0, d0⟩ := hx.cu (k := 2) (by omega)
      by_cases hl : 2 < f
      · rw [HO.out 2 hl] at c0
        clear hx d0 hk1
        go_wp2_with fail
        go_roundw
        case rel => exact ⟨3, by omega, by go_num, trivial⟩
        case measure => simp [intOf]
      · obtain rfl : f = 2 := by omega
        rw [HS.out] at c0
        have f0 := World.rowIs.frozen hx 71
        have HC := copy_ok V M wr hM (HT.out.below B2)
        clear d0 hk1 hl hi hx
        go_wp2_with fail
        refine HC.mono ?_
        rintro e w2 ⟨U, rfl, hU, hUF, hb2⟩
        have hx2 := (HB.out.below B2).below hb2
        have B3 : Below w.heap.size w w2 := B2.trans (hb2.mono (by omega))
        have hs2 := hb2.size
        obtain ⟨W3, hW3⟩ : ∃ W, W = w2.alloc (.cells #[.slice (some ⟨U.ba, U.oa, none⟩) M.n U.ca, .slice (some ⟨U.bn, U.on, none⟩) M.n U.cn] 30) := ⟨_, rfl⟩
        have B4 : Below w2.heap.size w2 W3 := by rw [hW3]; exact (Below.refl _ _).alloc (Nat.le_refl _) _
        have hk3 : W3.heap[w2.heap.size]? = some (.cells #[.slice (some ⟨U.ba, U.oa, none⟩) M.n U.ca, .slice (some ⟨U.bn, U.on, none⟩) M.n U.cn] 30 (0, 0)) := by rw [hW3]; exact heap_at_new (by simp)
        obtain ⟨y0, y1, _, _⟩ := cell_two hk3
        have hx3 := hx2.below B4
        have g0 := World.rowIs.frozen hx3 71
        have g1 := World.rowIs.frozen hx3 (71 + 1)
        have g2 := World.rowIs.frozen hx3 (71 + 2)
        have g3 := World.rowIs.frozen hx3 (71 + 3)
        have g4 := World.rowIs.frozen hx3 (71 + 4)
        obtain ⟨d0, d1, d2, d3, d4⟩ := hx3.cu (k := 2) (by omega)
        have HU : Hid (TabAt W3 U M) := hU.below B4
        have HX3 : Hid (BxAt W3 bx t n (cuv c)) := hx3
        have B5 : Below w.heap.size w W3 := B3.trans (B4.mono (by omega))
        clear HC hU hx2 hb2 hx3 hk3 B4 f0 c0 x0 x1
        go_wp2_with fail
        rw [← hW3]
        clear hW3
        go_region
        go_wp2_with fail
        go_ret2
        obtain ⟨WF, hWF⟩ : ∃ W, W = ((((W3.setCell ⟨bx, 71, none⟩ (.bool true)).setCell ⟨bx, 72, none⟩ (.slice (some ⟨U.ba, U.oa, none⟩) M.n U.ca)).setCell ⟨bx, 73, none⟩ (.slice (some ⟨U.bn, U.on, none⟩) M.n U.cn)).setCell ⟨bx, 74, none⟩ (.bool false)).setCell ⟨bx, 75, none⟩ (.string ⟨#[]⟩) := ⟨_, rfl⟩
        have hp : BxAt WF bx t n (cuv (setCu c 2 (openCu U M.n))) ∧ Touch (fun k => k = bx) W3 WF := by rw [hWF]; exact HX3.out.put (k := 2) (by omega) (openCu U M.n)
        rw [← hWF]
        clear hWF
        have hT := touch_drew1 hp.2
        exact ⟨U, rfl, HU.out.touch1 hUF hT (by omega), hUF.mono (by omega), hp.1, touch_then' (touch_of_below' B5) hT⟩
    · obtain ⟨c0, d0⟩ := hx.cu (k := 3) (by omega)
      by_cases hl : 3 < f
      · omega
      · obtain rfl : f = 3 := by omega
        rw [HS.out] at c0
        have f0 := World.rowIs.frozen hx 76
        have HC := copy_ok V M wr hM (HT.out.below B2)
        clear d0 hk1 hl hi hx
        go_wp2_with fail
        refine HC.mono ?_
        rintro e w2 ⟨U, rfl, hU, hUF, hb2⟩
        have hx2 := (HB.out.below B2).below hb2
        have B3 : Below w.heap.size w w2 := B2.trans (hb2.mono (by omega))
        have hs2 := hb2.size
        obtain ⟨W3, hW3⟩ : ∃ W, W = w2.alloc (.cells #[.slice (some ⟨U.ba, U.oa, none⟩) M.n U.ca, .slice (some ⟨U.bn, U.on, none⟩) M.n U.cn] 30) := ⟨_, rfl⟩
        have B4 : Below w2.heap.size w2 W3 := by rw [hW3]; exact (Below.refl _ _).alloc (Nat.le_refl _) _
        have hk3 : W3.heap[w2.heap.size]? = some (.cells #[.slice (some ⟨U.ba, U.oa, none⟩) M.n U.ca, .slice (some ⟨U.bn, U.on, none⟩) M.n U.cn] 30 (0, 0)) := by rw [hW3]; exact heap_at_new (by simp)
        obtain ⟨y0, y1, _, _⟩ := cell_two hk3
        have hx3 := hx2.below B4
        have g0 := World.rowIs.frozen hx3 76
        have g1 := World.rowIs.frozen hx3 (76 + 1)
        have g2 := World.rowIs.frozen hx3 (76 + 2)
        have g3 := World.rowIs.frozen hx3 (76 + 3)
        have g4 := World.rowIs.frozen hx3 (76 + 4)
        obtain ⟨d0, d1, d2, d3, d4⟩ := hx3.cu (k := 3) (by omega)
        have HU : Hid (TabAt W3 U M) := hU.below B4
        have HX3 : Hid (BxAt W3 bx t n (cuv c)) := hx3
        have B5 : Below w.heap.size w W3 := B3.trans (B4.mono (by omega))
        clear HC hU hx2 hb2 hx3 hk3 B4 f0 c0 x0 x1
        go_wp2_with fail
        rw [← hW3]
        clear hW3
        go_region
        go_wp2_with fail
        go_ret2
        obtain ⟨WF, hWF⟩ : ∃ W, W = ((((W3.setCell ⟨bx, 76, none⟩ (.bool true)).setCell ⟨bx, 77, none⟩ (.slice (some ⟨U.ba, U.oa, none⟩) M.n U.ca)).setCell ⟨bx, 78, none⟩ (.slice (some ⟨U.bn, U.on, none⟩) M.n U.cn)).setCell ⟨bx, 79, none⟩ (.bool false)).setCell ⟨bx, 80, none⟩ (.string ⟨#[]⟩) := ⟨_, rfl⟩
        have hp : BxAt WF bx t n (cuv (setCu c 3 (openCu U M.n))) ∧ Touch (fun k => k = bx) W3 WF := by rw [hWF]; exact HX3.out.put (k := 3) (by omega) (openCu U M.n)
        rw [← hWF]
        clear hWF
        have hT := touch_drew1 hp.2
        exact ⟨U, rfl, HU.out.touch1 hUF hT (by omega), hUF.mono (by omega), hp.1, touch_then' (touch_of_below' B5) hT⟩
end Go.Proofs.Ytpngikmcjkjdaab

namespace Go.Proofs.Ytpngikmcjkjdaab
open Go.RowKit
set_option linter.unusedVariables false
set_option linter.unusedSimpArgs false
set_option maxRecDepth 20000 in
set_option maxHeartbeats 1000000 in
theorem tclose_ok (w : World) (bx n : Nat) (t : Nat → ByteArray) (c : Nat → Cu) (k : Int) (h : BxAt w bx t n (cuv c)) :
    Calls Try.prog 47 #[.pointer (some ⟨bx, 0, none⟩), .int .i64 k] w fun e w' => e = .returned (.int .i64 (closeErr c k)) ∧ BxAt w' bx t n (cuv (closeC c k)) ∧ Touch (fun j => j = bx) w w' := by
  have HC := bclose_ok w bx n t c k h
  clear h
  go_enter Try.func47, Try.ntmps47
  go_wp2_with (go_at_call 65; refine HC.mono ?_; rintro e w1 ⟨rfl, hx, ht⟩; have HX : Hid (BxAt w1 bx t n (cuv (closeC c k))) := hx; have HT : Hid (Touch (fun k => k = bx) w w1) := ht; clear hx ht)
  go_ret
  exact ⟨rfl, HX.out, HT.out⟩
set_option maxRecDepth 20000 in
set_option maxHeartbeats 1000000 in
theorem tnext_no (w : World) (bx n : Nat) (t : Nat → ByteArray) (c : Nat → Cu) (k limit : Int) (h : BxAt w bx t n (cuv c)) (hno : nextErr c k limit ≠ 0) :
    Calls Try.prog 34 #[.pointer (some ⟨bx, 0, none⟩), .int .i64 k, .int .i64 limit] w fun e w' => e = .returned (.tuple #[.slice none 0 0, .bool false, .int .i64 (nextErr c k limit)]) ∧ w' = w := by
  have HC := bnext_no w bx n t c k limit h hno
  clear h hno
  go_enter Try.func34, Try.ntmps34
  go_wp2_with (go_at_call 49; refine HC.mono ?_; rintro e w1 ⟨rfl, hw1⟩; obtain rfl : w = w1 := hw1.symm)
  go_ret3
  exact ⟨rfl, rfl⟩
set_option maxRecDepth 20000 in
set_option maxHeartbeats 1000000 in
theorem tnext_ok (w : World) (bx n m limit : Nat) (t : Nat → ByteArray) (c : Nat → Cu) (V : Lay) (M : Tab) (h : BxAt w bx t n (cuv c)) (hn : n ≤ 60) (hm : m < 4) (hop : (c m).op = true) (hl1 : 1 ≤ limit) (hl : limit ≤ 50) (htu : ∀ i, i < n → tuneB (t i) = true)
    (hA : (c m).vA = .slice (some ⟨V.ba, V.oa, none⟩) M.n V.ca) (hN : (c m).vN = .slice (some ⟨V.bn, V.on, none⟩) M.n V.cn) (hM : M.Ok) (hT : TabAt w V M) :
    Calls Try.prog 34 #[.pointer (some ⟨bx, 0, none⟩), .int .i64 (m : Int), .int .i64 (limit : Int)] w fun e w' => ∃ v, e = .returned (.tuple #[v, .bool (chooseB (c m) M t n limit), .int .i64 0]) ∧ w'.ownsRow w.heap.size 9 1 v (chooseL (c m) M t n limit).length (strs (chooseL (c m) M t n limit)) ∧ BxAt w' bx t n (cuv (nextC c m (chooseL (c m) M t n limit))) ∧ Touch (fun j => j = bx) w w' := by
  have HC := bnext_ok w bx n m limit t c V M h hn hm hop hl1 hl htu hA hN hM hT
  clear h hn hm hop hl1 hl htu hA hN hM hT
  go_enter Try.func34, Try.ntmps34
  go_wp2_with (go_at_call 49; refine HC.mono ?_; rintro e w1 ⟨v, rfl, ho, hx, ht⟩; have HX : Hid (w1.ownsRow w.heap.size 9 1 v (chooseL (c m) M t n limit).length (strs (chooseL (c m) M t n limit)) ∧ BxAt w1 bx t n (cuv (nextC c m (chooseL (c m) M t n limit))) ∧ Touch (fun j => j = bx) w w1) := ⟨ho, hx, ht⟩; clear ho hx ht)
  go_ret3
  exact ⟨v, rfl, HX.out.1, HX.out.2.1, HX.out.2.2⟩
set_option maxRecDepth 20000 in
set_option maxHeartbeats 1000000 in
theorem topen_ok (V : Lay) (M : Tab) (w : World) (bx n : Nat) (t : Nat → ByteArray) (c : Nat → Cu) (hM : M.Ok) (hV : TabAt w V M) (h : BxAt w bx t n (cuv c)) (hf : freeC c < 4) :
    Calls Try.prog 33 #[.pointer (some ⟨bx, 0, none⟩), .agg #[.slice (some ⟨V.ba, V.oa, none⟩) M.n V.ca, .slice (some ⟨V.bn, V.on, none⟩) M.n V.cn]] w
      fun e w' => ∃ U : Lay, e = .returned (.tuple #[.int .i64 (freeC c : Int), .int .i64 0]) ∧ TabAt w' U M ∧ U.From w.heap.size M.n ∧ BxAt w' bx t n (cuv (setCu c (freeC c) (openCu U M.n))) ∧ Touch (fun k => k = bx) w w' := by
  obtain ⟨W1, hW1⟩ : ∃ W, W = w.alloc (.cells #[.slice (some ⟨V.ba, V.oa, none⟩) M.n V.ca, .slice (some ⟨V.bn, V.on, none⟩) M.n V.cn] 30) := ⟨_, rfl⟩
  have B1 : Below w.heap.size w W1.drew := by rw [hW1]; exact ((Below.refl _ _).alloc (Nat.le_refl _) _).drew
  have hk1 : W1.heap[w.heap.size]? = some (.cells #[.slice (some ⟨V.ba, V.oa, none⟩) M.n V.ca, .slice (some ⟨V.bn, V.on, none⟩) M.n V.cn] 30 (0, 0)) := by rw [hW1]; exact heap_at_new (by simp)
  obtain ⟨y0, y1, _, _⟩ := cell_two hk1
  have hs1 : w.heap.size < W1.drew.heap.size := heap_lt hk1
  have HC := bopen_ok V M _ bx n t c hM (hV.below B1) (h.below B1) hf
  clear h hV hM hf
  go_enter Try.func33, Try.ntmps33
  go_wp2_with fail
  rw [← hW1]
  clear hW1 hk1
  go_region_with (go_at_call 48; refine HC.mono ?_; rintro e w1 ⟨U, rfl, hU, hUF, hx, hT⟩; have HX : Hid (TabAt w1 U M ∧ U.From w.heap.size M.n ∧ BxAt w1 bx t n (cuv (setCu c (freeC c) (openCu U M.n))) ∧ Touch (fun k => k = bx) w w1) := ⟨hU, hUF.mono (by omega), hx, touch_then' (touch_of_below' B1) hT⟩; clear hU hx hT hUF)
  go_wp2_with fail
  go_ret2
  exact ⟨U, rfl, HX.out.1, HX.out.2.1, HX.out.2.2.1, HX.out.2.2.2⟩
end Go.Proofs.Ytpngikmcjkjdaab

namespace Go.Proofs.Ytpngikmcjkjdaab
open Go.RowKit
set_option linter.unusedVariables false
set_option linter.unusedSimpArgs false
section
variable {t : Nat → ByteArray} {n : Nat}
end
theorem srt_unique : ∀ l m : List ByteArray, l.Pairwise (fun a b => less a b = true) → m.Pairwise (fun a b => less a b = true) → (∀ s, s ∈ l ↔ s ∈ m) → l = m
  | [], [], _, _, _ => rfl
  | [], b :: m, _, _, h => by have := (h b).2 (by simp); simp at this
  | a :: l, [], _, _, h => by have := (h a).1 (by simp); simp at this
  | a :: l, b :: m, hl, hm, h => by
    rw [List.pairwise_cons] at hl hm
    have e : a = b := by
      have h1 := (h a).1 (by simp)
      have h2 := (h b).2 (by simp)
      rw [List.mem_cons] at h1 h2
      rcases h1 with h1 | h1
      · exact h1
      · rcases h2 with h2 | h2
        · exact h2.symm
        · have := less_trans (hm.1 a h1) (hl.1 b h2)
          rw [less_irrefl] at this
          cases this
    subst e
    rw [srt_unique l m hl.2 hm.2 (fun s => ?_)]
    have hs := h s
    rw [List.mem_cons, List.mem_cons] at hs
    constructor
    · intro hx
      rcases hs.1 (.inr hx) with e | hy
      · exact absurd e.symm (less_ne (hl.1 s hx))
      · exact hy
    · intro hx
      rcases hs.2 (.inr hx) with e | hy
      · exact absurd e.symm (less_ne (hm.1 s hx))
      · exact hy
end Go.Proofs.Ytpngikmcjkjdaab
