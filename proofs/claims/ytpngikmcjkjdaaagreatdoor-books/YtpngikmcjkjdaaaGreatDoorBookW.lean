import Derived.Test.YtpngikmcjkjdaaaGreatDoorBookT
import Derived.Test.YtpngikmcjkjdaaaGreatDoorStep
namespace Go.Proofs.YtpngikmcjkjdaaaGreatDoor
open Go.RowKit
set_option linter.unusedVariables false
set_option linter.unusedSimpArgs false

theorem own_keep {w w' : World} {base e s n : Nat} {v : Value} {x : List Value} (ho : w.ownsRow base e s v n x) (hk : ∀ g, v.ownBlock = some g → w'.heap[g]? = w.heap[g]?) : w'.ownsRow base e s v n x := by
  refine ⟨ho.1, ?_⟩
  rcases ho.2 with ⟨rfl, hn⟩ | ⟨g, cap, cur, rfl, hb, hg, r⟩
  · exact .inl ⟨rfl, hn⟩
  · exact .inr ⟨g, cap, cur, rfl, hb, by rw [hk g rfl]; exact hg, r⟩
/-- A book of the program's and the document's, in memory. -/
structure Bk where
  bp : Nat
  bx : Nat
  br : Nat
  t : Nat → ByteArray
  n : Nat
  ry : Value
  cx : Nat → Value
  cy : Nat → Value
  more : Nat → Prop
  cur : World → Prop
def Bk.foot (d : Bk) (k : Nat) : Prop := k = d.bp ∨ k = d.bx ∨ k = d.br ∨ d.ry.ownBlock = some k ∨ d.more k
structure BkAt (w : World) (d : Bk) : Prop where
  pr : w.heap[d.bp]? = some (.cells #[.pointer (some ⟨d.bx, 0, none⟩), .pointer (some ⟨d.br, 0, none⟩)] 51 (0, 0))
  px : BxAt w d.bx d.t d.n d.cx
  py : ByAt w d.br d.ry d.t d.n d.cy
  srt : SrtB d.t d.n
  le : d.n ≤ 60
  tun : ∀ i, i < d.n → tuneB (d.t i) = true
  cu : d.cur w
  cst : ∀ w1 w2 : World, d.cur w1 → (∀ k, d.more k → w2.heap[k]? = w1.heap[k]?) → d.cur w2
  mo : ∀ k, d.more k → k < w.heap.size ∧ k ≠ d.bp ∧ k ≠ d.bx ∧ k ≠ d.br
theorem row_type {w : World} {b t n : Nat} {f : Nat → Value} (h : w.rowIs b t n f) : ∃ c, w.heap[b]? = some (.cells c t (0, 0)) := by
  obtain ⟨c, hb, _⟩ := h; exact ⟨c, hb⟩
theorem own_type {w : World} {base e s n g : Nat} {v : Value} {x : List Value} (h : w.ownsRow base e s v n x) (hg : v.ownBlock = some g) : ∃ c, w.heap[g]? = some (.cells c e (0, 0)) := by
  rcases h.2 with ⟨rfl, _⟩ | ⟨g', cap, cur, rfl, _, h2, _⟩
  · simp [Value.ownBlock] at hg
  · simp only [Value.ownBlock, Option.some.injEq] at hg
    subst hg; exact ⟨_, h2⟩
theorem type_ne {w : World} {a b t u : Nat} {c d : Array Value} (h1 : w.heap[a]? = some (.cells c t (0, 0))) (h2 : w.heap[b]? = some (.cells d u (0, 0))) (hne : t ≠ u) : a ≠ b := by
  rintro rfl
  rw [h1] at h2
  injection h2 with h2
  injection h2 with _ h2
  exact hne h2
theorem BkAt.lt {w : World} {d : Bk} (h : BkAt w d) (k : Nat) (hk : d.foot k) : k < w.heap.size := by
  rcases hk with rfl | rfl | rfl | hk | hk
  · exact heap_lt h.pr
  · exact World.rowIs.lt h.px
  · exact World.rowIs.lt h.py.1
  · exact (h.py.2.lt k hk).2
  · exact (h.mo k hk).1
theorem BkAt.apart {w : World} {d : Bk} (h : BkAt w d) : d.bp ≠ d.bx ∧ d.bp ≠ d.br ∧ d.bx ≠ d.br ∧ d.ry.ownBlock ≠ some d.bp ∧ d.ry.ownBlock ≠ some d.bx ∧ d.ry.ownBlock ≠ some d.br := by
  obtain ⟨c1, e1⟩ := row_type h.px
  obtain ⟨c2, e2⟩ := row_type h.py.1
  refine ⟨type_ne h.pr e1 (by decide), type_ne h.pr e2 (by decide), type_ne e1 e2 (by decide), fun e => ?_, fun e => ?_, fun e => ?_⟩
  · obtain ⟨c, e3⟩ := own_type h.py.2 e; exact type_ne e3 h.pr (by decide) rfl
  · obtain ⟨c, e3⟩ := own_type h.py.2 e; exact type_ne e3 e1 (by decide) rfl
  · obtain ⟨c, e3⟩ := own_type h.py.2 e; exact type_ne e3 e2 (by decide) rfl
theorem BkAt.keep {w w' : World} {d : Bk} (h : BkAt w d) (hk : ∀ k, d.foot k → w'.heap[k]? = w.heap[k]?) : BkAt w' d where
  pr := by rw [hk _ (.inl rfl)]; exact h.pr
  px := World.rowIs.of_block h.px (hk _ (.inr (.inl rfl)))
  py := ⟨World.rowIs.of_block h.py.1 (hk _ (.inr (.inr (.inl rfl)))), own_keep h.py.2 (fun g e => hk _ (.inr (.inr (.inr (.inl e)))))⟩
  srt := h.srt
  le := h.le
  tun := h.tun
  cu := h.cst w w' h.cu (fun k hm => hk _ (.inr (.inr (.inr (.inr hm)))))
  cst := h.cst
  mo := fun k hm => ⟨heap_lt ((hk k (.inr (.inr (.inr (.inr hm))))).trans (Array.getElem?_eq_getElem (h.mo k hm).1)), (h.mo k hm).2⟩
theorem BkAt.below {w w' : World} {d : Bk} (h : BkAt w d) (hb : Below w.heap.size w w') : BkAt w' d := h.keep (fun k hk => hb.block k (h.lt k hk))
/-- The program's book has changed. -/
theorem BkAt.stepX {w w1 : World} {d : Bk} (h : BkAt w d) (ht : Touch (fun k => k = d.bx) w w1) : w1.heap[d.bp]? = some (.cells #[.pointer (some ⟨d.bx, 0, none⟩), .pointer (some ⟨d.br, 0, none⟩)] 51 (0, 0)) ∧ ByAt w1 d.br d.ry d.t d.n d.cy := by
  obtain ⟨a1, a2, a3, a4, a5, a6⟩ := h.apart
  exact ⟨ht.heap h.pr a1, World.rowIs.of_block h.py.1 (ht.block _ (World.rowIs.lt h.py.1) (fun e => a3 e.symm)), own_keep h.py.2 (fun g e => ht.block g (h.py.2.lt g e).2 (fun e' => a5 (by rw [e, e'])))⟩
/-- Both have changed alike. -/
theorem BkAt.step {w w1 w2 : World} {d : Bk} (h : BkAt w d) {t' : Nat → ByteArray} {n' : Nat} {ry' : Value} (ht1 : Touch (fun k => k = d.bx) w w1) (hx : BxAt w1 d.bx t' n' d.cx) (ht2 : Touch (fun k => k = d.br) w1 w2) (hy : ByAt w2 d.br ry' t' n' d.cy)
    (hs : SrtB t' n') (hl : n' ≤ 60) (htu : ∀ i, i < n' → tuneB (t' i) = true) : BkAt w2 { d with t := t', n := n', ry := ry' } where
  pr := ht2.heap (h.stepX ht1).1 h.apart.2.1
  px := World.rowIs.of_block hx (ht2.block _ (World.rowIs.lt hx) h.apart.2.2.1)
  py := hy
  srt := hs
  le := hl
  tun := htu
  cu := h.cst w w2 h.cu (fun k hm => (ht2.block k (Nat.lt_of_lt_of_le (h.mo k hm).1 ht1.size) (h.mo k hm).2.2.2).trans (ht1.block k (h.mo k hm).1 (h.mo k hm).2.2.1))
  cst := h.cst
  mo := fun k hm => ⟨Nat.lt_of_lt_of_le (h.mo k hm).1 (Nat.le_trans ht1.size ht2.size), (h.mo k hm).2⟩
/-- A list of texts that came out, over which its owner has written. -/
def TxAt (w : World) (v : Value) (k : Nat) : Prop := v = .slice none 0 0 ∨ ∃ g m, v = .slice (some ⟨g, 0, none⟩) m m ∧ m ≤ maxLen ∧ w.rowIs g 9 m (fun _ => .string (markB k))
theorem TxAt.keep {w w' : World} {v : Value} {k : Nat} (h : TxAt w v k) (hk : ∀ g, v.ownBlock = some g → w'.heap[g]? = w.heap[g]?) : TxAt w' v k := by
  rcases h with h | ⟨g, m, rfl, hm, h⟩
  · exact .inl h
  · exact .inr ⟨g, m, rfl, hm, World.rowIs.of_block h (hk g rfl)⟩
theorem TxAt.lt {w : World} {v : Value} {k g : Nat} (h : TxAt w v k) (hg : v.ownBlock = some g) : g < w.heap.size := by
  rcases h with rfl | ⟨g', m, rfl, hm, h⟩
  · simp [Value.ownBlock] at hg
  · simp only [Value.ownBlock, Option.some.injEq] at hg
    subst hg; exact World.rowIs.lt h
def bptrs (ps : List Bk) : List Value := ps.map fun d => .pointer (some ⟨d.bp, 0, none⟩)
theorem bptrs_at (ps : List Bk) (i : Nat) (h : i < ps.length) : (bptrs ps)[i]? = some (.pointer (some ⟨ps[i].bp, 0, none⟩)) := by simp [bptrs, h]
theorem bptrs_snoc (ps : List Bk) (d : Bk) : bptrs ps ++ [.pointer (some ⟨d.bp, 0, none⟩)] = bptrs (ps ++ [d]) := by simp [bptrs]
/-- What a step on tables leaves as it is: all that bears a label. -/
def frOf (Wo w : World) (vbs vtx : Value) (lab : Nat → Nat) : Fw := ⟨Wo, vbs, vtx, fun k => if lab k = 0 then none else w.heap[k]?⟩
/-- The caller's world: tables, books (label 3 + 2 i), lists of texts (label 4 + 2 i). -/
structure WbAt (Wo w : World) (bw : Nat) (vts vbs vtx : Value) (hs : List Hd) (ps : List Bk) (xs : List Value) (lab : Nat → Nat) : Prop where
  wd : WdAt (frOf Wo w vbs vtx lab) w bw vts hs
  ownB : w.ownsRow (bw + 1) 45 1 vbs ps.length (bptrs ps)
  ownX : w.ownsRow (bw + 1) 56 1 vtx xs.length xs
  bks : ∀ i (h : i < ps.length), BkAt w ps[i] ∧ ∀ k, ps[i].foot k → lab k = 3 + 2 * i
  txs : ∀ i (h : i < xs.length), TxAt w xs[i] i ∧ ∀ g, xs[i].ownBlock = some g → lab g = 4 + 2 * i
  lB : ∀ g, vbs.ownBlock = some g → lab g = 1
  lX : ∀ g, vtx.ownBlock = some g → lab g = 2
  lt : ∀ k, lab k ≠ 0 → k < w.heap.size
/-- A table step: what bears a label stands as it stood. -/
theorem WbAt.tables {Wo w w' : World} {bw : Nat} {vts vbs vtx vts' : Value} {hs hs' : List Hd} {ps : List Bk} {xs : List Value} {lab : Nat → Nat} (h : WbAt Wo w bw vts vbs vtx hs ps xs lab) (h' : WdAt (frOf Wo w vbs vtx lab) w' bw vts' hs') :
    WbAt Wo w' bw vts' vbs vtx hs' ps xs lab := by
  have hk : ∀ k, lab k ≠ 0 → w'.heap[k]? = w.heap[k]? := by
    intro k hl
    have hlt := h.lt k hl
    obtain ⟨o, ho⟩ : ∃ o, w.heap[k]? = some o := ⟨_, Array.getElem?_eq_getElem hlt⟩
    have := (h'.frm k o (by simp [frOf, hl, ho])).1
    rw [this, ho]
  have hfr : frOf Wo w' vbs vtx lab = frOf Wo w vbs vtx lab := by
    unfold frOf
    congr 1
    funext k
    by_cases e : lab k = 0
    · simp [e]
    · simp [e, hk k e]
  refine ⟨by rw [hfr]; exact h', own_keep h.ownB (fun g e => hk g (by rw [h.lB g e]; omega)), own_keep h.ownX (fun g e => hk g (by rw [h.lX g e]; omega)), fun i hi => ?_, fun i hi => ?_, h.lB, h.lX, fun k hl => heap_lt ((hk k hl).trans (Array.getElem?_eq_getElem (h.lt k hl)))⟩
  · exact ⟨(h.bks i hi).1.keep (fun k hf => hk k (by rw [(h.bks i hi).2 k hf]; omega)), (h.bks i hi).2⟩
  · exact ⟨(h.txs i hi).1.keep (fun g e => hk g (by rw [(h.txs i hi).2 g e]; omega)), (h.txs i hi).2⟩
theorem WbAt.below {Wo w w' : World} {bw : Nat} {vts vbs vtx : Value} {hs : List Hd} {ps : List Bk} {xs : List Value} {lab : Nat → Nat} (h : WbAt Wo w bw vts vbs vtx hs ps xs lab) (hb : Below w.heap.size w w') : WbAt Wo w' bw vts vbs vtx hs ps xs lab :=
  h.tables (h.wd.below hb)
/-- The tables, when what bears a label has changed. -/
theorem WdAt.reframe {F F' : Fw} {w w' : World} {bw : Nat} {vts : Value} {hs : List Hd} {S : Nat → Prop} (h : WdAt F w bw vts hs) (hT : Touch S w w') (hS : ∀ k, S k → k = bw ∨ (bw < k ∧ vts.ownBlock ≠ some k ∧ ∀ d ∈ hs, k < d.lo ∨ d.hi ≤ k)) (hwo : F'.wo = F.wo)
    (hblk : w'.heap[bw]? = some (.cells #[vts, F'.vbs, F'.vtx] 31 (0, 0))) (hfr : ∀ k o, F'.fr k = some o → w'.heap[k]? = some o ∧ (F.fr k ≠ none ∨ w.heap.size ≤ k)) : WdAt F' w' bw vts hs := by
  have hsz := heap_lt h.blk
  refine ⟨by rw [hwo]; exact hT.below h.blw (by omega) (fun k hk => by rcases hS k hk with e | ⟨e, _⟩ <;> omega), hblk, hT.own h.own (fun g e hg => ?_), fun d hd => ?_, h.lo, h.ord, h.tsf, fun k o hk => ?_⟩
  · rcases hS g hg with e' | ⟨_, e', _⟩
    · have := (h.own.lt g e).1; omega
    · exact e' e
  · refine (h.hds d hd).keep (fun k hk1 hk2 => hT.block k (Nat.lt_of_lt_of_le hk2 (h.hds d hd).siz) (fun hk => ?_)) hT.size
    have := h.lo d hd
    rcases hS k hk with e' | ⟨_, _, e'⟩
    · omega
    · have := e' d hd; omega
  · obtain ⟨h1, h2⟩ := hfr k o hk
    refine ⟨h1, ?_⟩
    rcases h2 with h2 | h2
    · obtain ⟨o', ho'⟩ := Option.ne_none_iff_exists'.1 h2
      exact (h.frm k o' ho').2
    · refine ⟨by omega, fun e => ?_, fun d hd => ?_⟩
      · have := (h.own.lt k e).2; omega
      · right; have := (h.hds d hd).siz; omega
theorem three_set1 {w : World} {b : Nat} {x y z u : Value} {t : TypeId} (h : w.heap[b]? = some (.cells #[x, y, z] t (0, 0))) : (w.setCell ⟨b, 1, none⟩ u).heap[b]? = some (.cells #[x, u, z] t (0, 0)) := by
  simp [World.setCell, Array.getElem?_modify, h]
theorem three_set2 {w : World} {b : Nat} {x y z u : Value} {t : TypeId} (h : w.heap[b]? = some (.cells #[x, y, z] t (0, 0))) : (w.setCell ⟨b, 2, none⟩ u).heap[b]? = some (.cells #[x, y, u] t (0, 0)) := by
  simp [World.setCell, Array.getElem?_modify, h]
section
variable {Wo w w1 w2 w' : World} {bw : Nat} {vts vbs vtx : Value} {hs : List Hd} {ps : List Bk} {xs : List Value} {lab : Nat → Nat}
theorem WbAt.out (h : WbAt Wo w bw vts vbs vtx hs ps xs lab) (k : Nat) (hl : lab k ≠ 0) : bw < k ∧ vts.ownBlock ≠ some k ∧ ∀ d ∈ hs, k < d.lo ∨ d.hi ≤ k := by
  obtain ⟨o, ho⟩ : ∃ o, w.heap[k]? = some o := ⟨_, Array.getElem?_eq_getElem (h.lt k hl)⟩
  exact (h.wd.frm k o (by simp [frOf, hl, ho])).2
theorem WbAt.fr (h : WbAt Wo w bw vts vbs vtx hs ps xs lab) (k : Nat) (hl : lab k ≠ 0) : (frOf Wo w vbs vtx lab).fr k ≠ none := by
  simp only [frOf, if_neg hl, ne_eq, Array.getElem?_eq_none_iff]
  have := h.lt k hl
  omega
/-- A new labelling, with what it asks of the tables. -/
theorem WbAt.relabel (h : WbAt Wo w bw vts vbs vtx hs ps xs lab) {S : Nat → Prop} (hT : Touch S w w') (hS : ∀ k, S k → k = bw ∨ lab k ≠ 0) {vbs' vtx' : Value} {lab' : Nat → Nat} (hblk : w'.heap[bw]? = some (.cells #[vts, vbs', vtx'] 31 (0, 0))) (hl : ∀ k, lab' k ≠ 0 → lab k ≠ 0 ∨ w.heap.size ≤ k) :
    WdAt (frOf Wo w' vbs' vtx' lab') w' bw vts hs := by
  refine h.wd.reframe hT (fun k hk => ?_) rfl hblk (fun k o hk => ?_)
  · rcases hS k hk with e | e
    · exact .inl e
    · exact .inr (h.out k e)
  · by_cases e : lab' k = 0
    · simp [frOf, e] at hk
    · simp only [frOf, if_neg e] at hk
      exact ⟨hk, (hl k e).imp (h.fr k) id⟩
open Classical in
theorem WbAt.book (h : WbAt Wo w bw vts vbs vtx hs ps xs lab) {i : Nat} (hi : i < ps.length) {d' : Bk} (hT : Touch (fun k => lab k = 3 + 2 * i) w w') (hd : BkAt w' d') (hbp : d'.bp = ps[i].bp) (hf : ∀ k, d'.foot k → lab k = 3 + 2 * i ∨ w.heap.size ≤ k) :
    ∃ lab', WbAt Wo w' bw vts vbs vtx hs (ps.set i d') xs lab' := by
  refine ⟨fun k => if w.heap.size ≤ k ∧ d'.foot k then 3 + 2 * i else lab k, ?_⟩
  have hold : ∀ k, lab k ≠ 0 → (if w.heap.size ≤ k ∧ d'.foot k then 3 + 2 * i else lab k) = lab k := by
    intro k hl
    have := h.lt k hl
    rw [if_neg (by omega)]
  have hkeep : ∀ k, lab k ≠ 0 → lab k ≠ 3 + 2 * i → w'.heap[k]? = w.heap[k]? := fun k hl hne => hT.block k (h.lt k hl) hne
  have hbw : lab bw = 0 := by
    by_cases e : lab bw = 0
    · exact e
    · have := (h.out bw e).1; omega
  have hblk := hT.heap h.wd.blk (by rw [hbw]; omega)
  have hp : bptrs (ps.set i d') = bptrs ps := by
    apply List.ext_getElem?
    intro j
    by_cases hj : j < ps.length
    · rw [bptrs_at ps j hj, bptrs_at _ j (by simpa using hj)]
      by_cases e : i = j
      · subst e; simp [hbp]
      · rw [List.getElem_set_ne e]
    · rw [List.getElem?_eq_none (by simp [bptrs]; omega), List.getElem?_eq_none (by simp [bptrs]; omega)]
  refine ⟨h.relabel hT (fun k hk => .inr (by rw [hk]; omega)) hblk (fun k hl => ?_), ?_, own_keep h.ownX (fun g e => hkeep g (by rw [h.lX g e]; omega) (by rw [h.lX g e]; omega)), fun j hj => ?_, fun j hj => ?_, fun g e => ?_, fun g e => ?_, fun k hl => ?_⟩
  · by_cases e : w.heap.size ≤ k ∧ d'.foot k
    · exact .inr e.1
    · rw [if_neg e] at hl; exact .inl hl
  · rw [hp, List.length_set]
    exact own_keep h.ownB (fun g e => hkeep g (by rw [h.lB g e]; omega) (by rw [h.lB g e]; omega))
  · have hj' : j < ps.length := by simpa using hj
    by_cases e : i = j
    · subst e
      rw [List.getElem_set_self]
      refine ⟨hd, fun k hk => ?_⟩
      rcases hf k hk with e | e
      · rw [hold k (by rw [e]; omega), e]
      · rw [if_pos ⟨e, hk⟩]
    · rw [List.getElem_set_ne e]
      obtain ⟨b1, b2⟩ := h.bks j hj'
      refine ⟨b1.keep (fun k hk => hkeep k (by rw [b2 k hk]; omega) (by rw [b2 k hk]; omega)), fun k hk => ?_⟩
      rw [hold k (by rw [b2 k hk]; omega), b2 k hk]
  · obtain ⟨b1, b2⟩ := h.txs j hj
    refine ⟨b1.keep (fun g e => hkeep g (by rw [b2 g e]; omega) (by rw [b2 g e]; omega)), fun g e => ?_⟩
    rw [hold g (by rw [b2 g e]; omega), b2 g e]
  · rw [hold g (by rw [h.lB g e]; omega), h.lB g e]
  · rw [hold g (by rw [h.lX g e]; omega), h.lX g e]
  · by_cases e : w.heap.size ≤ k ∧ d'.foot k
    · exact hd.lt k e.2
    · rw [if_neg e] at hl; exact Nat.lt_of_lt_of_le (h.lt k hl) hT.size
theorem touch_mono {S S' : Nat → Prop} {w w1 : World} (h : Touch S w w1) (hs : ∀ k, S k → S' k) : Touch S' w w1 := ⟨h.os, h.tape, h.output, h.size, fun k hk hn => h.block k hk (fun e => hn (hs k e))⟩
theorem touch_of_below {S : Nat → Prop} {w w1 : World} (hB : Below w.heap.size w w1) : Touch S w w1 := ⟨hB.os, hB.tape, hB.output, hB.size, fun k hk _ => hB.block k hk⟩
open Classical in
theorem WbAt.newText (h : WbAt Wo w bw vts vbs vtx hs ps xs lab) (hB : Below w.heap.size w w1) {x : Value} (hx : TxAt w1 x xs.length) (hxn : ∀ g, x.ownBlock = some g → w.heap.size ≤ g) {g cap : Nat}
    (hown : w2.ownsRow (bw + 1) 56 1 (.slice (some ⟨g, 0, none⟩) (xs.length + 1) cap) (xs.length + 1) (xs ++ [x])) {o : Obj} (hg : (w1.alloc o).grownBy w2 vtx.ownBlock) (hf : vtx.ownBlock = some g ∨ g = (w1.alloc o).heap.size) :
    w2.heap[bw]? = some (.cells #[vts, vbs, vtx] 31 (0, 0)) ∧ Touch (fun k => k = bw ∨ lab k ≠ 0) w (w2.setCell ⟨bw, 2, none⟩ (.slice (some ⟨g, 0, none⟩) (xs.length + 1) cap)) ∧ ∃ lab', WbAt Wo (w2.setCell ⟨bw, 2, none⟩ (.slice (some ⟨g, 0, none⟩) (xs.length + 1) cap)) bw vts vbs (.slice (some ⟨g, 0, none⟩) (xs.length + 1) cap) hs ps (xs ++ [x]) lab' := by
  have hbs := heap_lt h.wd.blk
  have hs1 := hB.size
  have hxlt := hown.lt
  have hbw : lab bw = 0 := by
    by_cases e : lab bw = 0
    · exact e
    · have := (h.out bw e).1; omega
  have hT2 : Touch (fun k => k = bw ∨ lab k = 2) w w2 := ((touch_of_below hB).alloc o).grown hg (fun k e => .inl (.inr (h.lX k e)))
  have hblk2 : w2.heap[bw]? = some (.cells #[vts, vbs, vtx] 31 (0, 0)) := by
    rw [hg.block bw (by simp; omega) (fun e => by have := (h.ownX.lt bw e.symm).1; omega), Below.heap_alloc w1 o bw (by omega), hB.block bw hbs]
    exact h.wd.blk
  have hT : Touch (fun k => k = bw ∨ lab k = 2) w (w2.setCell ⟨bw, 2, none⟩ (.slice (some ⟨g, 0, none⟩) (xs.length + 1) cap)) := hT2.set _ _ (.inl (.inl rfl))
  refine ⟨hblk2, touch_mono hT (fun k hk => hk.imp id (fun e => by rw [e]; omega)), fun k => if k = g then 2 else if x.ownBlock = some k then 4 + 2 * xs.length else lab k, ?_⟩
  have hgl : lab g = 2 ∨ (lab g = 0 ∧ w.heap.size ≤ g) := by
    rcases hf with e | e
    · exact .inl (h.lX g e)
    · right
      have hge : w.heap.size ≤ g := by rw [e]; simp; omega
      refine ⟨?_, hge⟩
      by_cases e' : lab g = 0
      · exact e'
      · have := h.lt g e'; omega
  have hxl : ∀ k, x.ownBlock = some k → lab k = 0 := by
    intro k e
    by_cases e' : lab k = 0
    · exact e'
    · have := h.lt k e'; have := hxn k e; omega
  have hxg : x.ownBlock ≠ some g := by
    intro e
    have h1 := hx.lt e
    have h2 := hxn g e
    rcases hf with e' | e'
    · have := h.lt g (by rw [h.lX g e']; omega); omega
    · rw [e'] at h1; simp at h1; omega
  have hold : ∀ k, lab k ≠ 0 → lab k ≠ 2 → (if k = g then 2 else if x.ownBlock = some k then 4 + 2 * xs.length else lab k) = lab k := by
    intro k hl hne
    rw [if_neg (fun e => by subst e; rcases hgl with e | e <;> omega), if_neg (fun e => hl (hxl k e))]
  have hkeep : ∀ k, lab k ≠ 0 → lab k ≠ 2 → (w2.setCell ⟨bw, 2, none⟩ (.slice (some ⟨g, 0, none⟩) (xs.length + 1) cap)).heap[k]? = w.heap[k]? := fun k hl hne => hT.block k (h.lt k hl) (by
    rintro (e | e)
    · subst e; exact hl hbw
    · exact hne e)
  refine ⟨h.relabel hT (fun k hk => hk.imp id (fun e => by rw [e]; omega)) (three_set2 hblk2) (fun k hl => ?_), own_keep h.ownB (fun k e => hkeep k (by rw [h.lB k e]; omega) (by rw [h.lB k e]; omega)), ?_, fun j hj => ?_, fun j hj => ?_, fun k e => ?_, fun k e => ?_, fun k hl => ?_⟩
  · by_cases e : k = g
    · subst e; rcases hgl with e | e
      · exact .inl (by omega)
      · exact .inr e.2
    · rw [if_neg e] at hl
      by_cases e2 : x.ownBlock = some k
      · exact .inr (hxn k e2)
      · rw [if_neg e2] at hl; exact .inl hl
  · simp only [List.length_append, List.length_singleton]
    exact ownsRow_setCell_below hown (by simp) _
  · obtain ⟨b1, b2⟩ := h.bks j hj
    refine ⟨b1.keep (fun k hk => hkeep k (by rw [b2 k hk]; omega) (by rw [b2 k hk]; omega)), fun k hk => ?_⟩
    rw [hold k (by rw [b2 k hk]; omega) (by rw [b2 k hk]; omega), b2 k hk]
  · simp only [List.length_append, List.length_singleton] at hj
    by_cases e : j < xs.length
    · rw [List.getElem_append_left e]
      obtain ⟨b1, b2⟩ := h.txs j e
      refine ⟨b1.keep (fun k hk => hkeep k (by rw [b2 k hk]; omega) (by rw [b2 k hk]; omega)), fun k hk => ?_⟩
      rw [hold k (by rw [b2 k hk]; omega) (by rw [b2 k hk]; omega), b2 k hk]
    · have ej : j = xs.length := by omega
      subst ej
      rw [List.getElem_append_right (Nat.le_refl _)]
      simp only [Nat.sub_self, List.getElem_singleton]
      refine ⟨hx.keep (fun k hk => ?_), fun k hk => ?_⟩
      · have h1 := hx.lt hk
        have h2 := hxn k hk
        rw [Below.heap_setCell _ _ _ k (by simp; omega), hg.block k (by simp; omega) (fun e' => by have := h.lt k (by rw [h.lX k e'.symm]; omega); omega), Below.heap_alloc w1 o k h1]
      · rw [if_neg (fun e' => hxg (by rw [← e']; exact hk)), if_pos hk]
  · rw [hold k (by rw [h.lB k e]; omega) (by rw [h.lB k e]; omega), h.lB k e]
  · simp only [Value.ownBlock, Option.some.injEq] at e
    rw [if_pos e.symm]
  · by_cases e : k = g
    · subst e; have := (hown.lt k rfl).2; simpa using this
    · rw [if_neg e] at hl
      by_cases e2 : x.ownBlock = some k
      · have h1 := hx.lt e2
        have h2 := hg.size
        simp at h2 ⊢; omega
      · rw [if_neg e2] at hl; exact Nat.lt_of_lt_of_le (h.lt k hl) hT.size
open Classical in
theorem WbAt.newBook (h : WbAt Wo w bw vts vbs vtx hs ps xs lab) (hB : Below w.heap.size w w1) {d : Bk} (hd : BkAt w1 d) (hxn : ∀ k, d.foot k → w.heap.size ≤ k) {g cap : Nat}
    (hown : w2.ownsRow (bw + 1) 45 1 (.slice (some ⟨g, 0, none⟩) (ps.length + 1) cap) (ps.length + 1) (bptrs ps ++ [.pointer (some ⟨d.bp, 0, none⟩)])) {o : Obj} (hg : (w1.alloc o).grownBy w2 vbs.ownBlock) (hf : vbs.ownBlock = some g ∨ g = (w1.alloc o).heap.size) :
    w2.heap[bw]? = some (.cells #[vts, vbs, vtx] 31 (0, 0)) ∧ ∃ lab', WbAt Wo (w2.setCell ⟨bw, 1, none⟩ (.slice (some ⟨g, 0, none⟩) (ps.length + 1) cap)) bw vts (.slice (some ⟨g, 0, none⟩) (ps.length + 1) cap) vtx hs (ps ++ [d]) xs lab' := by
  have hbs := heap_lt h.wd.blk
  have hs1 := hB.size
  have hbw : lab bw = 0 := by
    by_cases e : lab bw = 0
    · exact e
    · have := (h.out bw e).1; omega
  have hT2 : Touch (fun k => k = bw ∨ lab k = 1) w w2 := ((touch_of_below hB).alloc o).grown hg (fun k e => .inl (.inr (h.lB k e)))
  have hblk2 : w2.heap[bw]? = some (.cells #[vts, vbs, vtx] 31 (0, 0)) := by
    rw [hg.block bw (by simp; omega) (fun e => by have := (h.ownB.lt bw e.symm).1; omega), Below.heap_alloc w1 o bw (by omega), hB.block bw hbs]
    exact h.wd.blk
  have hT : Touch (fun k => k = bw ∨ lab k = 1) w (w2.setCell ⟨bw, 1, none⟩ (.slice (some ⟨g, 0, none⟩) (ps.length + 1) cap)) := hT2.set _ _ (.inl (.inl rfl))
  refine ⟨hblk2, fun k => if k = g then 1 else if d.foot k then 3 + 2 * ps.length else lab k, ?_⟩
  have hgl : lab g = 1 ∨ (lab g = 0 ∧ w.heap.size ≤ g) := by
    rcases hf with e | e
    · exact .inl (h.lB g e)
    · right
      have hge : w.heap.size ≤ g := by rw [e]; simp; omega
      refine ⟨?_, hge⟩
      by_cases e' : lab g = 0
      · exact e'
      · have := h.lt g e'; omega
  have hxl : ∀ k, d.foot k → lab k = 0 := by
    intro k e
    by_cases e' : lab k = 0
    · exact e'
    · have := h.lt k e'; have := hxn k e; omega
  have hxg : ¬ d.foot g := by
    intro e
    have h1 := hd.lt g e
    have h2 := hxn g e
    rcases hf with e' | e'
    · have := h.lt g (by rw [h.lB g e']; omega); omega
    · rw [e'] at h1; simp at h1; omega
  have hold : ∀ k, lab k ≠ 0 → lab k ≠ 1 → (if k = g then 1 else if d.foot k then 3 + 2 * ps.length else lab k) = lab k := by
    intro k hl hne
    rw [if_neg (fun e => by subst e; rcases hgl with e | e <;> omega), if_neg (fun e => hl (hxl k e))]
  have hkeep : ∀ k, lab k ≠ 0 → lab k ≠ 1 → (w2.setCell ⟨bw, 1, none⟩ (.slice (some ⟨g, 0, none⟩) (ps.length + 1) cap)).heap[k]? = w.heap[k]? := fun k hl hne => hT.block k (h.lt k hl) (by
    rintro (e | e)
    · subst e; exact hl hbw
    · exact hne e)
  refine ⟨h.relabel hT (fun k hk => hk.imp id (fun e => by rw [e]; omega)) (three_set1 hblk2) (fun k hl => ?_), ?_, own_keep h.ownX (fun k e => hkeep k (by rw [h.lX k e]; omega) (by rw [h.lX k e]; omega)), fun j hj => ?_, fun j hj => ?_, fun k e => ?_, fun k e => ?_, fun k hl => ?_⟩
  · by_cases e : k = g
    · subst e; rcases hgl with e | e
      · exact .inl (by omega)
      · exact .inr e.2
    · rw [if_neg e] at hl
      by_cases e2 : d.foot k
      · exact .inr (hxn k e2)
      · rw [if_neg e2] at hl; exact .inl hl
  · rw [bptrs_snoc] at hown
    simp only [List.length_append, List.length_singleton]
    exact ownsRow_setCell_below hown (by simp) _
  · simp only [List.length_append, List.length_singleton] at hj
    by_cases e : j < ps.length
    · rw [List.getElem_append_left e]
      obtain ⟨b1, b2⟩ := h.bks j e
      refine ⟨b1.keep (fun k hk => hkeep k (by rw [b2 k hk]; omega) (by rw [b2 k hk]; omega)), fun k hk => ?_⟩
      rw [hold k (by rw [b2 k hk]; omega) (by rw [b2 k hk]; omega), b2 k hk]
    · have ej : j = ps.length := by omega
      subst ej
      rw [List.getElem_append_right (Nat.le_refl _)]
      simp only [Nat.sub_self, List.getElem_singleton]
      refine ⟨hd.keep (fun k hk => ?_), fun k hk => ?_⟩
      · have h1 := hd.lt k hk
        have h2 := hxn k hk
        rw [Below.heap_setCell _ _ _ k (by simp; omega), hg.block k (by simp; omega) (fun e' => by have := h.lt k (by rw [h.lB k e'.symm]; omega); omega), Below.heap_alloc w1 o k h1]
      · rw [if_neg (fun e' => hxg (by rw [← e']; exact hk)), if_pos hk]
  · obtain ⟨b1, b2⟩ := h.txs j hj
    refine ⟨b1.keep (fun k hk => hkeep k (by rw [b2 k hk]; omega) (by rw [b2 k hk]; omega)), fun k hk => ?_⟩
    rw [hold k (by rw [b2 k hk]; omega) (by rw [b2 k hk]; omega), b2 k hk]
  · simp only [Value.ownBlock, Option.some.injEq] at e
    rw [if_pos e.symm]
  · rw [hold k (by rw [h.lX k e]; omega) (by rw [h.lX k e]; omega), h.lX k e]
  · by_cases e : k = g
    · subst e; have := (hown.lt k rfl).2; simpa using this
    · rw [if_neg e] at hl
      by_cases e2 : d.foot k
      · have h1 := hd.lt k e2
        have h2 := hg.size
        simp at h2 ⊢; omega
      · rw [if_neg e2] at hl; exact Nat.lt_of_lt_of_le (h.lt k hl) hT.size
end
end Go.Proofs.YtpngikmcjkjdaaaGreatDoor
