import Derived.Test.YtpngikmcjkjdaaaGreatDoorHeldP
import Derived.Test.YtpngikmcjkjdaaaGreatDoorRawMk
import Derived.Deep.RegionHeld3
namespace Go.Proofs.YtpngikmcjkjdaaaGreatDoor
open Go.RowKit
set_option linter.unusedVariables false

def ptrs (hs : List Hd) : List Value := hs.map fun d => .pointer (some ⟨d.bh, 0, none⟩)
theorem ptrs_snoc (hs : List Hd) (d : Hd) : ptrs hs ++ [.pointer (some ⟨d.bh, 0, none⟩)] = ptrs (hs ++ [d]) := by simp [ptrs]
theorem ptrs_at (hs : List Hd) (i : Nat) (h : i < hs.length) : (ptrs hs)[i]? = some (.pointer (some ⟨hs[i].bh, 0, none⟩)) := by simp [ptrs, h]
/-- What a step on tables leaves as it is: the world at the start, the books, the lists of texts, and the blocks that these own. -/
structure Fw where
  wo : World
  vbs : Value
  vtx : Value
  fr : Nat → Option Obj
/-- No book, no list of texts. -/
def Fw.plain (w : World) : Fw := ⟨w, .slice none 0 0, .slice none 0 0, fun _ => none⟩
/-- The caller's world: the tables; books and lists of texts stand beside. -/
structure WdAt (W0 : Fw) (w : World) (bw : Nat) (vts : Value) (hs : List Hd) : Prop where
  blw : Below bw W0.wo w
  blk : w.heap[bw]? = some (.cells #[vts, W0.vbs, W0.vtx] 31 (0, 0))
  own : w.ownsRow (bw + 1) 36 1 vts hs.length (ptrs hs)
  hds : ∀ d ∈ hs, HdAt w d
  lo : ∀ d ∈ hs, bw + 1 ≤ d.lo
  ord : hs.Pairwise (fun a b => a.hi ≤ b.lo)
  tsf : ∀ g, vts.ownBlock = some g → ∀ d ∈ hs, g < d.lo ∨ d.hi ≤ g
  frm : ∀ k o, W0.fr k = some o → w.heap[k]? = some o ∧ bw < k ∧ vts.ownBlock ≠ some k ∧ ∀ d ∈ hs, k < d.lo ∨ d.hi ≤ k
theorem WdAt.below {W0 : Fw} {w w' : World} {bw : Nat} {vts : Value} {hs : List Hd} (h : WdAt W0 w bw vts hs) (hb : Below w.heap.size w w') : WdAt W0 w' bw vts hs :=
  ⟨h.blw.trans (hb.mono (by have := heap_lt h.blk; omega)), by rw [hb.block _ (heap_lt h.blk)]; exact h.blk, ownsRow_below h.own hb, fun d hd => (h.hds d hd).below hb, h.lo, h.ord, h.tsf, fun k o hk => by
    obtain ⟨f1, f2, f3, f4⟩ := h.frm k o hk
    exact ⟨by rw [hb.block _ (heap_lt f1)]; exact f1, f2, f3, f4⟩⟩
theorem cell_three {w : World} {b : Nat} {x y z : Value} {t : TypeId} (h : w.heap[b]? = some (.cells #[x, y, z] t (0, 0))) : w.cell? ⟨b, 0, none⟩ = some x ∧ w.cell? ⟨b, 1, none⟩ = some y ∧ w.cell? ⟨b, 2, none⟩ = some z ∧ w.frozen? ⟨b, 0, none⟩ = false := by
  simp [World.cell?, World.frozen?, h]
theorem three_set0 {w : World} {b : Nat} {x y z u : Value} {t : TypeId} (h : w.heap[b]? = some (.cells #[x, y, z] t (0, 0))) : (w.setCell ⟨b, 0, none⟩ u).heap[b]? = some (.cells #[u, y, z] t (0, 0)) := by
  simp [World.setCell, Array.getElem?_modify, h]
/-- One table more. -/
theorem WdAt.add {W0 : Fw} {w w1 w2 : World} {bw : Nat} {vts : Value} {hs : List Hd} (h : WdAt W0 w bw vts hs) (hB : Below w.heap.size w w1) {d : Hd} (hd : HdAt w1 d) (hl : w.heap.size ≤ d.lo) {g cap : Nat}
    (hown : w2.ownsRow (bw + 1) 36 1 (.slice (some ⟨g, 0, none⟩) (hs.length + 1) cap) (hs.length + 1) (ptrs hs ++ [.pointer (some ⟨d.bh, 0, none⟩)])) {o : Obj} (hg : (w1.alloc o).grownBy w2 vts.ownBlock) (hf : vts.ownBlock = some g ∨ g = (w1.alloc o).heap.size) :
    w2.heap[bw]? = some (.cells #[vts, W0.vbs, W0.vtx] 31 (0, 0)) ∧ WdAt W0 (w2.setCell ⟨bw, 0, none⟩ (.slice (some ⟨g, 0, none⟩) (hs.length + 1) cap)) bw (.slice (some ⟨g, 0, none⟩) (hs.length + 1) cap) (hs ++ [d]) := by
  have h1 := (h.below hB).below ((Below.refl w1.heap.size w1).alloc (Nat.le_refl _) o)
  have hd1 := hd.below ((Below.refl w1.heap.size w1).alloc (Nat.le_refl _) o)
  have hs1 := heap_lt h1.blk
  have hlt := fun x e => h1.own.lt x e
  have hsz := hg.size
  have hs0 := heap_lt h.blk
  have hblk : w2.heap[bw]? = some (.cells #[vts, W0.vbs, W0.vtx] 31 (0, 0)) := by
    rw [hg.block _ hs1 (fun e => by have := (hlt _ e.symm).1; omega)]; exact h1.blk
  have hkeep : ∀ k : Nat, bw < k → k < (w1.alloc o).heap.size → vts.ownBlock ≠ some k → (w2.setCell ⟨bw, 0, none⟩ (.slice (some ⟨g, 0, none⟩) (hs.length + 1) cap)).heap[k]? = (w1.alloc o).heap[k]? := by
    intro k hk1 hk2 hne
    rw [Below.heap_setCell _ _ _ k (by simp; omega), hg.block k hk2 (fun e => hne e.symm)]
  have hws : w.heap.size ≤ w1.heap.size := hB.size
  have hold : ∀ e ∈ hs, e.hi ≤ w.heap.size := fun e he => (h.hds e he).siz
  have hvt : ∀ x, vts.ownBlock = some x → x < w.heap.size := fun x e => (h.own.lt x e).2
  refine ⟨hblk, (h1.blw.grown hg (by omega) (fun x e => by have := (hlt x e).1; omega)).setCell (p := ⟨bw, 0, none⟩) (Nat.le_refl _) _, three_set0 hblk, ?_, ?_, ?_, ?_, ?_, ?_⟩
  · rw [ptrs_snoc] at hown
    simp only [List.length_append, List.length_singleton]
    exact ownsRow_setCell_below hown (by simp) _
  · intro e he
    simp only [List.mem_append, List.mem_singleton] at he
    rcases he with he | rfl
    · refine (h1.hds e he).keep (fun k hk1 hk2 => hkeep k ?_ ?_ ?_) (by simpa using hsz)
      · have := h.lo e he; omega
      · have := hold e he; simp; omega
      · intro e'
        rcases h.tsf k e' e he with hh | hh <;> omega
    · refine hd1.keep (fun k hk1 hk2 => hkeep k ?_ ?_ ?_) (by simpa using hsz)
      · omega
      · have := hd.siz; simp; omega
      · intro e'; have := hvt k e'; omega
  · intro e he
    simp only [List.mem_append, List.mem_singleton] at he
    rcases he with he | rfl
    · exact h.lo e he
    · omega
  · rw [List.pairwise_append]
    refine ⟨h.ord, by simp, fun a ha b hb => ?_⟩
    simp only [List.mem_singleton] at hb
    subst hb
    have := hold a ha; omega
  · intro x hx e he
    simp only [Value.ownBlock, Option.some.injEq] at hx
    subst hx
    simp only [List.mem_append, List.mem_singleton] at he
    rcases hf with hf | hf
    · rcases he with he | rfl
      · exact h.tsf _ hf e he
      · left; have := hvt _ hf; omega
    · right
      rw [hf]
      rcases he with he | rfl
      · have := hold e he; simp; omega
      · have := hd.siz; simp; omega
  · intro k ob hk
    obtain ⟨f1, f2, f3, f4⟩ := h.frm k ob hk
    have hks := heap_lt f1
    refine ⟨?_, f2, ?_, ?_⟩
    · rw [hkeep k f2 (by simp; omega) f3]
      exact (h1.frm k ob hk).1
    · simp only [Value.ownBlock, ne_eq, Option.some.injEq]
      rcases hf with hf | hf
      · intro e; exact f3 (by rw [hf, e])
      · intro e; have : k < (w1.alloc o).heap.size := heap_lt (h1.frm k ob hk).1; omega
    · intro e he
      simp only [List.mem_append, List.mem_singleton] at he
      rcases he with he | rfl
      · exact f4 e he
      · left; omega
/-- One table has been written into by its owner. -/
theorem WdAt.put {W0 : Fw} {w w1 : World} {bw : Nat} {vts : Value} {hs : List Hd} (h : WdAt W0 w bw vts hs) {i : Nat} (hi : i < hs.length) {A : Nat → Bool} {X : Nat → Nat → Int} (hd : HdAt w1 { hs[i] with A := A, X := X }) (ht : Touch (fun b => hs[i].lo ≤ b ∧ b < hs[i].hi) w w1) :
    WdAt W0 w1 bw vts (hs.set i { hs[i] with A := A, X := X }) := by
  have hm : hs[i] ∈ hs := List.getElem_mem hi
  have hlo := h.lo _ hm
  have hsz := heap_lt h.blk
  have hmem : ∀ e ∈ hs.set i { hs[i] with A := A, X := X }, ∃ e' ∈ hs, e.lo = e'.lo ∧ e.hi = e'.hi := by
    intro e he
    rcases List.mem_or_eq_of_mem_set he with he | rfl
    · exact ⟨e, he, rfl, rfl⟩
    · exact ⟨hs[i], hm, rfl, rfl⟩
  refine ⟨ht.below h.blw (by omega) (fun k hk => by omega), ht.heap h.blk (by omega), ?_, ?_, ?_, ?_, ?_, ?_⟩
  · have hp : ptrs (hs.set i { hs[i] with A := A, X := X }) = ptrs hs := by
      apply List.ext_getElem?
      intro j
      by_cases hj : j < hs.length
      · rw [ptrs_at hs j hj, ptrs_at _ j (by simpa using hj)]
        by_cases e : j = i
        · subst e; simp
        · rw [List.getElem_set_ne (fun e' => e e'.symm)]
      · rw [List.getElem?_eq_none (by simp [ptrs]; omega), List.getElem?_eq_none (by simp [ptrs]; omega)]
    rw [hp, List.length_set]
    refine ht.own h.own (fun g e hc => ?_)
    rcases h.tsf g e _ hm with hh | hh <;> omega
  · intro e he
    obtain ⟨j, hj, rfl⟩ := List.getElem_of_mem he
    have hj' : j < hs.length := by simpa using hj
    by_cases e : i = j
    · subst e; rw [List.getElem_set_self]; exact hd
    · rw [List.getElem_set_ne e]
      refine (h.hds _ (List.getElem_mem hj')).keep (fun k hk1 hk2 => ht.block k (Nat.lt_of_lt_of_le hk2 (h.hds _ (List.getElem_mem hj')).siz) (fun hc => ?_)) ht.size
      rcases Nat.lt_or_gt_of_ne e with hij | hij
      · have := List.pairwise_iff_getElem.1 h.ord i j hi hj' hij; omega
      · have := List.pairwise_iff_getElem.1 h.ord j i hj' hi hij; omega
  · intro e he
    obtain ⟨e', he', h1, h2⟩ := hmem e he
    have := h.lo e' he'; omega
  · rw [List.pairwise_iff_getElem]
    intro a b ha hb hab
    have ha' : a < hs.length := by simpa using ha
    have hb' : b < hs.length := by simpa using hb
    have := List.pairwise_iff_getElem.1 h.ord a b ha' hb' hab
    have e1 : (hs.set i { hs[i] with A := A, X := X })[a].hi = hs[a].hi := by
      by_cases e : i = a
      · subst e; rw [List.getElem_set_self]
      · rw [List.getElem_set_ne e]
    have e2 : (hs.set i { hs[i] with A := A, X := X })[b].lo = hs[b].lo := by
      by_cases e : i = b
      · subst e; rw [List.getElem_set_self]
      · rw [List.getElem_set_ne e]
    rw [e1, e2]; exact this
  · intro g e d hd'
    obtain ⟨e', he', h1, h2⟩ := hmem d hd'
    have := h.tsf g e e' he'
    omega
  · intro k o hk
    obtain ⟨f1, f2, f3, f4⟩ := h.frm k o hk
    refine ⟨ht.heap f1 (fun hc => ?_), f2, f3, ?_⟩
    · have := f4 _ hm; omega
    · intro e he
      obtain ⟨e', he', h1, h2⟩ := hmem e he
      have := f4 e' he'
      omega
end Go.Proofs.YtpngikmcjkjdaaaGreatDoor
