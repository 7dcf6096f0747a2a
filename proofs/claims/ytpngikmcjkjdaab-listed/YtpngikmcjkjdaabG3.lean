import Derived.Deep.AppendLies
import Derived.Deep.RegionLaw
import Derived.Test.YtpngikmcjkjdaabG2
set_option linter.unusedVariables false
set_option linter.unusedSimpArgs false
namespace Go.Proofs.Ytpngikmcjkjdaab
set_option linter.unusedVariables false
theorem nodup_bound : ∀ (N : Nat) (l : List Nat), l.Nodup → (∀ x ∈ l, x < N) → l.length ≤ N := by
  intro N
  induction N with
  | zero =>
    intro l _ h
    cases l with
    | nil => simp
    | cons a s => exact absurd (h a (by simp)) (by omega)
  | succ N ih =>
    intro l hn h
    have h1 := ih (l.erase N) (hn.erase N) (fun x hx => by
      have := (hn.mem_erase_iff).1 hx
      have := h x this.2
      omega)
    have h2 : l.length ≤ (l.erase N).length + 1 := by rw [List.length_erase]; split <;> omega
    omega
def pn (S : Nat → Nat → Nat) (ps : List Nat) (k c : Nat) : Nat := ps.idxOf (S (ps.getD k 0) c)
structure PRel (good : Nat → Prop) (S : Nat → Nat → Nat) (ps : List Nat) (p : Nat) : Prop where
  len : 1 ≤ ps.length
  hd : ps.getD 0 0 = 0
  nd : ps.Nodup
  inr : ∀ q ∈ ps, good q
  clo : ∀ r, r < p → r / 8 < ps.length ∧ S (ps.getD (r / 8) 0) (r % 8) ∈ ps
  num : ∀ r, r < p → pn S ps (r / 8) (r % 8) ≤ come (pn S ps) r
  row : ∀ i, 8 * i < p → i < come (pn S ps) (8 * i)
  cm : come (pn S ps) p = ps.length
section
variable {good : Nat → Prop} {S : Nat → Nat → Nat} {ps : List Nat} {p : Nat}
theorem PRel.start (h : good 0) : PRel good S [0] 0 :=
  ⟨by simp, rfl, by simp, by intro q hq; simp at hq; subst hq; exact h, fun r hr => absurd hr (by omega), fun r hr => absurd hr (by omega), fun i hi => absurd hi (by omega), rfl⟩
theorem PRel.old (h : PRel good S ps p) (hk : p / 8 < ps.length) (hq : S (ps.getD (p / 8) 0) (p % 8) ∈ ps) : PRel good S ps (p + 1) where
  len := h.len
  hd := h.hd
  nd := h.nd
  inr := h.inr
  clo r hr := by
    by_cases e : r = p
    · subst e; exact ⟨hk, hq⟩
    · exact h.clo r (by omega)
  num r hr := by
    by_cases e : r = p
    · subst e; have := List.idxOf_lt_length_of_mem hq; rw [h.cm]; exact Nat.le_of_lt this
    · exact h.num r (by omega)
  row i hi := by
    by_cases e : 8 * i = p
    · rw [e, h.cm]; have : p / 8 = i := by omega
      omega
    · exact h.row i (by omega)
  cm := by
    have hl : pn S ps (p / 8) (p % 8) < ps.length := List.idxOf_lt_length_of_mem hq
    simp only [come, h.cm]
    exact Nat.max_eq_left hl
theorem getD_app (l : List Nat) (x i : Nat) (h : i < l.length) : (l ++ [x]).getD i 0 = l.getD i 0 := getD_snoc_lt l x i h
theorem PRel.new (h : PRel good S ps p) (hk : p / 8 < ps.length) (hq : S (ps.getD (p / 8) 0) (p % 8) ∉ ps) (hg : good (S (ps.getD (p / 8) 0) (p % 8))) :
    PRel good S (ps ++ [S (ps.getD (p / 8) 0) (p % 8)]) (p + 1) := by
  have hst : ∀ r, r < p → pn S (ps ++ [S (ps.getD (p / 8) 0) (p % 8)]) (r / 8) (r % 8) = pn S ps (r / 8) (r % 8) := by
    intro r hr
    have hc := h.clo r hr
    simp only [pn]
    rw [getD_app _ _ _ hc.1, List.idxOf_append, if_pos hc.2]
  have hnew : pn S (ps ++ [S (ps.getD (p / 8) 0) (p % 8)]) (p / 8) (p % 8) = ps.length := by
    simp only [pn]
    rw [getD_app _ _ _ hk, List.idxOf_append, if_neg hq]
    simp
  have hcm : ∀ r, r ≤ p → come (pn S (ps ++ [S (ps.getD (p / 8) 0) (p % 8)])) r = come (pn S ps) r := fun r hr => come_congr r (fun q hq' => hst q (by omega))
  refine ⟨by simp, ?_, ?_, ?_, ?_, ?_, ?_, ?_⟩
  · rw [getD_app _ _ _ h.len]; exact h.hd
  · rw [List.nodup_append]; refine ⟨h.nd, by simp, ?_⟩
    intro a ha b hb e
    simp at hb
    subst hb; subst e; exact hq ha
  · intro q hq'
    rcases List.mem_append.1 hq' with h' | h'
    · exact h.inr q h'
    · simp at h'; subst h'; exact hg
  · intro r hr
    by_cases e : r = p
    · subst e; rw [getD_app _ _ _ hk]; exact ⟨by simp; omega, by simp⟩
    · have hc := h.clo r (by omega)
      rw [getD_app _ _ _ hc.1]
      exact ⟨by simp; omega, List.mem_append_left _ hc.2⟩
  · intro r hr
    by_cases e : r = p
    · subst e; rw [hnew, hcm r (Nat.le_refl _), h.cm]; exact Nat.le_refl _
    · rw [hst r (by omega), hcm r (by omega)]; exact h.num r (by omega)
  · intro i hi
    by_cases e : 8 * i = p
    · rw [hcm _ (by omega), e, h.cm]; have : p / 8 = i := by omega
      omega
    · rw [hcm _ (by omega)]; exact h.row i (by omega)
  · simp only [come, hcm p (Nat.le_refl _), h.cm, hnew, List.length_append, List.length_singleton]
    exact Nat.max_eq_right (Nat.le_succ _)
end
def succQ (M N : Tab) (q c : Nat) : Nat := M.nxt (q / 40) c * 40 + N.nxt (q % 40) c
def goodQ (M N : Tab) (q : Nat) : Prop := q / 40 < M.n ∧ q % 40 < N.n
theorem PRel.bound {M N : Tab} {ps : List Nat} {p : Nat} (hN : N.Ok) (h : PRel (goodQ M N) (succQ M N) ps p) : ps.length ≤ M.n * N.n := by
  have h1 := nodup_bound (M.n * N.n) (ps.map fun q => q / 40 * N.n + q % 40) ?_ ?_
  · simpa using h1
  · rw [List.Nodup, List.pairwise_map]
    refine List.Pairwise.imp_of_mem ?_ h.nd
    · intro a b ha hb hne e
      have h1 := h.inr a ha
      have h2 := h.inr b hb
      apply hne
      have g1 := h1.2
      have g2 := h2.2
      have e1 : (a / 40 * N.n + a % 40) / N.n = a / 40 := by
        rw [Nat.mul_comm, Nat.mul_add_div (by omega), Nat.div_eq_of_lt g1]; omega
      have e2 : (b / 40 * N.n + b % 40) / N.n = b / 40 := by
        rw [Nat.mul_comm, Nat.mul_add_div (by omega), Nat.div_eq_of_lt g2]; omega
      have ed : a / 40 = b / 40 := by rw [← e1, ← e2, e]
      rw [ed] at e
      omega
  · intro x hx
    simp only [List.mem_map] at hx
    obtain ⟨q, hq, rfl⟩ := hx
    have h1 := h.inr q hq
    have : (q / 40 + 1) * N.n ≤ M.n * N.n := Nat.mul_le_mul_right _ h1.1
    have h2 := h1.2
    rw [Nat.add_mul] at this
    omega
theorem getD_idxOf (ps : List Nat) (q : Nat) (h : q ∈ ps) : ps.getD (ps.idxOf q) 0 = q := by
  have hl := List.idxOf_lt_length_of_mem h
  rw [List.getD_eq_getElem?_getD, List.getElem?_eq_getElem hl]
  simp [List.getElem_idxOf]
theorem apart_le {M N : Tab} {L : List Nat → Bool} (hM : IsLeast M L) (hN : Numbered N) (hL : ∀ x, Notes x → N.accepts x = L x) (hs : List Nat) (hlt : ∀ c, c < hs.length → hs.getD c 0 < N.n)
    (hap : ∀ c d, c < d → d < hs.length → Apart N (hs.getD c 0) (hs.getD d 0)) : hs.length ≤ M.n := by
  have hex : ∀ s, ∃ x, s < N.n → Notes x ∧ N.read 0 x = s := fun s => by
    by_cases hs : s < N.n
    · obtain ⟨x, h⟩ := hN.reach s hs; exact ⟨x, fun _ => h⟩
    · exact ⟨[], fun h => absurd h hs⟩
  let g := fun s => Classical.choose (hex s)
  have hg : ∀ s, s < N.n → Notes (g s) ∧ N.read 0 (g s) = s := fun s => Classical.choose_spec (hex s)
  have key : ∀ c d, c < d → d < hs.length → M.read 0 (g (hs.getD c 0)) ≠ M.read 0 (g (hs.getD d 0)) := by
    intro c d hcd hd e
    obtain ⟨z, hz, hdf⟩ := hap c d hcd hd
    apply hdf
    have ha' := hg _ (hlt c (by omega))
    have hb' := hg _ (hlt d hd)
    have nt : ∀ x, Notes x → Notes (x ++ z) := fun x hx c hc => by
      rcases List.mem_append.1 hc with h | h
      · exact hx c h
      · exact hz c h
    have ea := hM.lang _ (nt _ ha'.1)
    have eb := hM.lang _ (nt _ hb'.1)
    rw [← hL _ (nt _ ha'.1)] at ea
    rw [← hL _ (nt _ hb'.1)] at eb
    simp only [Tab.accepts, Tab.read_append] at ea eb
    rw [ha'.2] at ea
    rw [hb'.2] at eb
    rw [← ea, ← eb, e]
  have h1 := nodup_bound M.n ((List.range hs.length).map fun c => M.read 0 (g (hs.getD c 0))) ?_ ?_
  · simpa using h1
  · refine List.Pairwise.map _ (fun a b h => h) ?_
    rw [List.pairwise_iff_getElem]
    intro i j hi hj hij
    simp only [List.getElem_range]
    exact key i j hij (by simpa using hj)
  · intro x hx
    simp only [List.mem_map, List.mem_range] at hx
    obtain ⟨c, hc, rfl⟩ := hx
    exact hM.num.read_lt 0 hM.num.pos _ (hg _ (hlt c hc)).1
end Go.Proofs.Ytpngikmcjkjdaab

namespace Go.Proofs.Ytpngikmcjkjdaab
open Go.RowKit
set_option linter.unusedVariables false
def LeastPost (L : List Nat → Bool) (budget bound : Nat) (w : World) (e : Ending) (w' : World) : Prop :=
  Below w.heap.size w w' ∧
    ((∃ (R : Tab) (V : Lay), IsLeast R L ∧ R.n ≤ budget ∧ e = .returned (.tuple #[.agg #[.slice (some ⟨V.ba, V.oa, none⟩) R.n V.ca, .slice (some ⟨V.bn, V.on, none⟩) R.n V.cn], .int .i64 0]) ∧ TabAt w' V R ∧ V.From w.heap.size R.n ∧ Fresh w' V R.n) ∨
     (e = .returned (.tuple #[.agg #[.slice none 0 0, .slice none 0 0], .int .i64 5]) ∧ budget < bound ∧ ∀ R, IsLeast R L → budget < R.n))
theorem apart_ne {M : Tab} {i j : Nat} (h : Apart M i j) : i ≠ j := by
  intro e; subst e; obtain ⟨x, _, hd⟩ := h; exact hd rfl
theorem heads_le {M : Tab} (hs : List Nat) (hlt : ∀ c, c < hs.length → hs.getD c 0 < M.n) (hap : ∀ c d, c < d → d < hs.length → Apart M (hs.getD c 0) (hs.getD d 0)) : hs.length ≤ M.n := by
  refine nodup_bound M.n hs ?_ ?_
  · rw [List.Nodup, List.pairwise_iff_getElem]
    intro i j hi hj hij e
    have := apart_ne (hap i j hij hj)
    rw [List.getD_eq_getElem?_getD, List.getElem?_eq_getElem hi, List.getD_eq_getElem?_getD, List.getElem?_eq_getElem hj] at this
    exact this e
  · intro x hx
    obtain ⟨c, hc, rfl⟩ := mem_getD hx
    exact hlt c hc
theorem res_alloc {w : World} {b : Nat} {x y u v : Value} {t : TypeId} (h : w.heap[b]? = some (.cells #[x, y] t (0, 0))) (o : Obj) :
    (((w.setCell ⟨b, 0, none⟩ u).setCell ⟨b, 1, none⟩ v).alloc o).cell? ⟨b, 0, none⟩ = some u ∧ (((w.setCell ⟨b, 0, none⟩ u).setCell ⟨b, 1, none⟩ v).alloc o).cell? ⟨b, 1, none⟩ = some v :=
  ⟨(cell_two (heap_at_old (two_set1 (two_set0 h)))).1, (cell_two (heap_at_old (two_set1 (two_set0 h)))).2.1⟩
theorem below_res {w w5 : World} {b : Nat} (h : Below w.heap.size w w5) (hb : w.heap.size ≤ b) (u v : Value) : Below w.heap.size w ((w5.setCell ⟨b, 0, none⟩ u).setCell ⟨b, 1, none⟩ v) :=
  (h.setCell (p := ⟨b, 0, none⟩) hb _).setCell (p := ⟨b, 1, none⟩) hb _
theorem TabAt.res {w : World} {V : Lay} {M : Tab} (h : TabAt w V M) {N b : Nat} (hV : V.From N M.n) (hb : b < N) (u v : Value) : TabAt ((w.setCell ⟨b, 0, none⟩ u).setCell ⟨b, 1, none⟩ v) V M :=
  (h.set hV (p := ⟨b, 0, none⟩) hb u).set hV (p := ⟨b, 1, none⟩) hb v
theorem Lay.From.mono {V : Lay} {N N' n : Nat} (h : V.From N n) (hN : N' ≤ N) : V.From N' n := ⟨by have := h.a; omega, by have := h.b; omega, fun i hi => by have := h.r i hi; omega⟩
theorem Try.infoE : (Try.prog.info? 113).map (fun i => (i.zero, i.size, i.bytes)) = some (some (.agg #[.int .i64 0, .int .i64 0, .int .i64 0, .int .i64 0, .int .i64 0, .int .i64 0, .int .i64 0, .int .i64 0]), 8, 64) := by kernel_rfl
theorem cells_new (w : World) (l : Array Value) (t : TypeId) : ∀ j u, l.toList[j]? = some u → (w.alloc (.cells l t)).cell? ((⟨w.heap.size, 0, none⟩ : Addr).add j) = some u := by
  intro j u hu
  have hadd : (⟨w.heap.size, 0, none⟩ : Addr).add j = ⟨w.heap.size, j, none⟩ := by unfold Addr.add; split <;> simp_all
  rw [hadd, cell_of_row (w.alloc (.cells l t)) w.heap.size j l t (0, 0) (heap_at_new rfl)]
  simpa using hu
structure Touch (S : Nat → Prop) (w w' : World) : Prop where
  os : w'.os = w.os
  tape : w'.tape = w.tape
  output : w'.output = w.output
  size : w.heap.size ≤ w'.heap.size
  block : ∀ k, k < w.heap.size → ¬ S k → w'.heap[k]? = w.heap[k]?
theorem Touch.below {S : Nat → Prop} {W w w' : World} {B : Nat} (h : Touch S w w') (hb : Below B W w) (hB : B ≤ w.heap.size) (hS : ∀ k, S k → B ≤ k) : Below B W w' :=
  ⟨h.os.trans hb.os, h.tape.trans hb.tape, h.output.trans hb.output, Nat.le_trans hb.size h.size, fun k hk => (h.block k (by omega) (fun hs => by have := hS k hs; omega)).trans (hb.block k hk)⟩
theorem Touch.own {S : Nat → Prop} {w w' : World} {base e s n : Nat} {v : Value} {x : List Value} (h : Touch S w w') (ho : w.ownsRow base e s v n x) (hS : ∀ g, v.ownBlock = some g → ¬ S g) : w'.ownsRow base e s v n x := by
  refine ⟨ho.1, ?_⟩
  rcases ho.2 with ⟨rfl, hn⟩ | ⟨g, cap, cur, rfl, hb, hg, r⟩
  · exact .inl ⟨rfl, hn⟩
  · exact .inr ⟨g, cap, cur, rfl, hb, by rw [h.block g (heap_lt hg) (hS g rfl)]; exact hg, r⟩
theorem Touch.row {S : Nat → Prop} {w w' : World} {b t n : Nat} {f : Nat → Value} (h : Touch S w w') (hr : w.rowIs b t n f) (hS : ¬ S b) : w'.rowIs b t n f := hr.of_block (h.block b hr.lt hS)
theorem Touch.heap {S : Nat → Prop} {w w' : World} {b : Nat} {o : Obj} (h : Touch S w w') (hr : w.heap[b]? = some o) (hS : ¬ S b) : w'.heap[b]? = some o := by rw [h.block b (heap_lt hr) hS]; exact hr
theorem Touch.alloc {S : Nat → Prop} {w w' : World} (h : Touch S w w') (o : Obj) : Touch S w (w'.alloc o) :=
  ⟨h.os, h.tape, h.output, Nat.le_trans h.size (by simp), fun k hk hs => (Below.heap_alloc w' o k (Nat.lt_of_lt_of_le hk h.size)).trans (h.block k hk hs)⟩
theorem Touch.set {S : Nat → Prop} {w w' : World} (h : Touch S w w') (a : Addr) (u : Value) (ha : S a.block ∨ w.heap.size ≤ a.block) : Touch S w (w'.setCell a u) :=
  ⟨by rw [← h.os]; rfl, by rw [← h.tape]; rfl, by rw [← h.output]; rfl, Nat.le_trans h.size (by simp), fun k hk hs =>
    (Below.heap_setCell w' a u k (fun e => ha.elim (fun ha => hs (by rw [e]; exact ha)) (fun ha => by omega))).trans (h.block k hk hs)⟩
theorem Touch.grown {S : Nat → Prop} {w w' w2 : World} (h : Touch S w w') {row : Option Nat} (hg : w'.grownBy w2 row) (hr : ∀ k, row = some k → S k ∨ w.heap.size ≤ k) : Touch S w w2 :=
  ⟨hg.os.trans h.os, hg.tape.trans h.tape, hg.output.trans h.output, Nat.le_trans h.size hg.size, fun k hk hs =>
    (hg.block k (Nat.lt_of_lt_of_le hk h.size) (fun e => (hr k e.symm).elim (fun h1 => hs h1) (fun h1 => by omega))).trans (h.block k hk hs)⟩
theorem Touch.refl (S : Nat → Prop) (w : World) : Touch S w w := ⟨rfl, rfl, rfl, Nat.le_refl _, fun _ _ _ => rfl⟩
section
variable {w w2 : World}
theorem own_apart {base e e' s s' n n' : Nat} {v v' : Value} {x x' : List Value} (h : w.ownsRow base e s v n x) (h' : w.ownsRow base e' s' v' n' x') (hne : e ≠ e') (g : Nat) (hg : v.ownBlock = some g) (hg' : v'.ownBlock = some g) : False := by
  rcases h.2 with ⟨rfl, _⟩ | ⟨a, cap, cur, rfl, _, h1, _⟩
  · simp [Value.ownBlock] at hg
  · rcases h'.2 with ⟨rfl, _⟩ | ⟨a', cap', cur', rfl, _, h2, _⟩
    · simp [Value.ownBlock] at hg'
    · simp only [Value.ownBlock, Option.some.injEq] at hg hg'
      subst hg; subst hg'
      rw [h1] at h2
      simp only [Option.some.injEq, Obj.cells.injEq] at h2
      exact hne h2.2.1
theorem rowIs_grown {b t n : Nat} {f : Nat → Value} (h : w.rowIs b t n f) {row : Option Nat} (hg : w.grownBy w2 row) (hne : row ≠ some b) : w2.rowIs b t n f :=
  h.of_block (hg.block b h.lt (fun e => hne e.symm))
theorem ownsRow_set {base e s n : Nat} {v : Value} {x : List Value} (h : w.ownsRow base e s v n x) (a : Addr) (u : Value) (hne : ∀ g, v.ownBlock = some g → g ≠ a.block) : (w.setCell a u).ownsRow base e s v n x :=
  ownsRow_setCell_other h (fun e => hne _ e rfl) u
end
def row8 (r : Nat → Nat) : Array Value := #[.int .i64 ((r 0 : Nat) : Int), .int .i64 ((r 1 : Nat) : Int), .int .i64 ((r 2 : Nat) : Int), .int .i64 ((r 3 : Nat) : Int), .int .i64 ((r 4 : Nat) : Int), .int .i64 ((r 5 : Nat) : Int), .int .i64 ((r 6 : Nat) : Int), .int .i64 ((r 7 : Nat) : Int)]
theorem Try.idx0 (x0 x1 x2 x3 x4 x5 x6 x7 : Value) (w : World) : (Instr.index 113 (.agg #[x0, x1, x2, x3, x4, x5, x6, x7]) (.int .i64 0)).run Try.prog w = .ok x0 w := by kernel_rfl
theorem Try.idx1 (x0 x1 x2 x3 x4 x5 x6 x7 : Value) (w : World) : (Instr.index 113 (.agg #[x0, x1, x2, x3, x4, x5, x6, x7]) (.int .i64 1)).run Try.prog w = .ok x1 w := by kernel_rfl
theorem Try.idx2 (x0 x1 x2 x3 x4 x5 x6 x7 : Value) (w : World) : (Instr.index 113 (.agg #[x0, x1, x2, x3, x4, x5, x6, x7]) (.int .i64 2)).run Try.prog w = .ok x2 w := by kernel_rfl
theorem Try.idx3 (x0 x1 x2 x3 x4 x5 x6 x7 : Value) (w : World) : (Instr.index 113 (.agg #[x0, x1, x2, x3, x4, x5, x6, x7]) (.int .i64 3)).run Try.prog w = .ok x3 w := by kernel_rfl
theorem Try.idx4 (x0 x1 x2 x3 x4 x5 x6 x7 : Value) (w : World) : (Instr.index 113 (.agg #[x0, x1, x2, x3, x4, x5, x6, x7]) (.int .i64 4)).run Try.prog w = .ok x4 w := by kernel_rfl
theorem Try.idx5 (x0 x1 x2 x3 x4 x5 x6 x7 : Value) (w : World) : (Instr.index 113 (.agg #[x0, x1, x2, x3, x4, x5, x6, x7]) (.int .i64 5)).run Try.prog w = .ok x5 w := by kernel_rfl
theorem Try.idx6 (x0 x1 x2 x3 x4 x5 x6 x7 : Value) (w : World) : (Instr.index 113 (.agg #[x0, x1, x2, x3, x4, x5, x6, x7]) (.int .i64 6)).run Try.prog w = .ok x6 w := by kernel_rfl
theorem Try.idx7 (x0 x1 x2 x3 x4 x5 x6 x7 : Value) (w : World) : (Instr.index 113 (.agg #[x0, x1, x2, x3, x4, x5, x6, x7]) (.int .i64 7)).run Try.prog w = .ok x7 w := by kernel_rfl
set_option maxRecDepth 20000 in
set_option maxHeartbeats 2000000 in
theorem inOrder_ok (gn cn : Nat) (M : Tab) (w : World) (hcel : ∀ i c, i < M.n → c < 8 → w.cell? ⟨gn, i * 8 + c, none⟩ = some (.int .i64 (M.nxt i c))) (hN : Numbered M) (hn : M.n ≤ 100000000) :
    Calls Try.prog 74 #[.slice (some ⟨gn, 0, none⟩) M.n cn] w fun e w' => e = .returned (.bool true) ∧ w' = w := by
  have hcl := come_le hN
  go_enter Try.func74, Try.ntmps74
  go_wp2_with fail
  go_loop [3, 4] (fun cm i' => ∃ i : Nat, i ≤ M.n ∧ i' = .int .i64 i ∧ cm = .int .i64 (come M.nxt (8 * i))) (fun _ i' => M.n - (intOf i').toNat)
  case atStart => exact ⟨0, by omega, rfl, rfl⟩
  case round =>
    obtain ⟨i, hi, rfl, rfl⟩ := hrel
    have hc1 := hcl (8 * i) (by omega)
    have hcp := come_pos M.nxt (8 * i)
    by_cases hlt : i < M.n
    · have hrow := hN.row i hlt
      obtain ⟨cm0, HC0⟩ : ∃ x, Hid (come M.nxt (8 * i) = x) := ⟨_, rfl⟩
      rw [HC0.out] at hc1 hcp hrow ⊢
      have z0 := hcel i 0 hlt (by omega)
      have z1 := hcel i 1 hlt (by omega)
      have z2 := hcel i 2 hlt (by omega)
      have z3 := hcel i 3 hlt (by omega)
      have z4 := hcel i 4 hlt (by omega)
      have z5 := hcel i 5 hlt (by omega)
      have z6 := hcel i 6 hlt (by omega)
      have z7 := hcel i 7 hlt (by omega)
      rw [Nat.add_zero] at z0
      have HCL : Hid (∀ p, p ≤ 8 * M.n → come M.nxt p ≤ M.n) := hcl
      clear hcl hcel
      go_wp2_with fail
      clear z0 z1 z2 z3 z4 z5 z6 z7
      go_loop [3, 6, 20] (fun cm _ c' => ∃ c : Nat, c ≤ 8 ∧ c' = .int .i64 c ∧ cm = .int .i64 (come M.nxt (8 * i + c))) (fun _ _ c' => 8 - (intOf c').toNat)
      case atStart => exact ⟨0, by omega, rfl, by simp only [Nat.add_zero]; rw [HC0.out]⟩
      case round =>
        obtain ⟨c, hc, rfl, rfl⟩ := hrel
        have hc2 := HCL.out (8 * i + c) (by omega)
        have hcp2 := come_pos M.nxt (8 * i + c)
        by_cases hl8 : c < 8
        · have hnx := hN.nx i c hlt hl8
          have hst := hN.step (8 * i + c) (by omega)
          have HCS : Hid (come M.nxt (8 * i + (c + 1)) = max (come M.nxt (8 * i + c)) (M.nxt i c + 1)) := by
            unfold Hid; rw [← Nat.add_assoc]; simp only [come]
            rw [show (8 * i + c) / 8 = i by omega, show (8 * i + c) % 8 = c by omega]
          rw [show (8 * i + c) / 8 = i by omega, show (8 * i + c) % 8 = c by omega] at hst
          obtain ⟨cm, HC⟩ : ∃ x, Hid (come M.nxt (8 * i + c) = x) := ⟨_, rfl⟩
          have HCS2 : Hid (come M.nxt (8 * i + (c + 1)) = max cm (M.nxt i c + 1)) := by unfold Hid; rw [← HC.out]; exact HCS.out
          rw [HC.out] at hc2 hcp2 hst ⊢
          rcases (show c = 0 ∨ c = 1 ∨ c = 2 ∨ c = 3 ∨ c = 4 ∨ c = 5 ∨ c = 6 ∨ c = 7 by omega) with rfl | rfl | rfl | rfl | rfl | rfl | rfl | rfl
          · have ix := Try.idx0 (.int .i64 (M.nxt i 0)) (.int .i64 (M.nxt i 1)) (.int .i64 (M.nxt i 2)) (.int .i64 (M.nxt i 3)) (.int .i64 (M.nxt i 4)) (.int .i64 (M.nxt i 5)) (.int .i64 (M.nxt i 6)) (.int .i64 (M.nxt i 7))
            by_cases hq : M.nxt i 0 = cm
            · have hb : ((M.nxt i 0 : Int) == (cm : Int)) = true := by simp; omega
              have HQ : Hid (M.nxt i 0 = cm) := hq
              clear hq
              go_wp2_with fail
              go_round
              case rel =>
                refine ⟨0 + 1, by omega, by go_num, ?_⟩
                have := HQ.out
                rw [HCS2.out, show max cm (M.nxt i 0 + 1) = cm + 1 by omega]; go_num
              case measure => simp [intOf]
            · have hb : ((M.nxt i 0 : Int) == (cm : Int)) = false := by simp; omega
              have HQ : Hid (M.nxt i 0 < cm) := by unfold Hid; omega
              clear hq
              go_wp2_with fail
              go_round
              case rel =>
                refine ⟨0 + 1, by omega, by go_num, ?_⟩
                have := HQ.out
                rw [HCS2.out, show max cm (M.nxt i 0 + 1) = cm by omega]
              case measure => simp [intOf]
          · have ix := Try.idx1 (.int .i64 (M.nxt i 0)) (.int .i64 (M.nxt i 1)) (.int .i64 (M.nxt i 2)) (.int .i64 (M.nxt i 3)) (.int .i64 (M.nxt i 4)) (.int .i64 (M.nxt i 5)) (.int .i64 (M.nxt i 6)) (.int .i64 (M.nxt i 7))
            by_cases hq : M.nxt i 1 = cm
            · have hb : ((M.nxt i 1 : Int) == (cm : Int)) = true := by simp; omega
              have HQ : Hid (M.nxt i 1 = cm) := hq
              clear hq
              go_wp2_with fail
              go_round
              case rel =>
                refine ⟨1 + 1, by omega, by go_num, ?_⟩
                have := HQ.out
                rw [HCS2.out, show max cm (M.nxt i 1 + 1) = cm + 1 by omega]; go_num
              case measure => simp [intOf]
            · have hb : ((M.nxt i 1 : Int) == (cm : Int)) = false := by simp; omega
              have HQ : Hid (M.nxt i 1 < cm) := by unfold Hid; omega
              clear hq
              go_wp2_with fail
              go_round
              case rel =>
                refine ⟨1 + 1, by omega, by go_num, ?_⟩
                have := HQ.out
                rw [HCS2.out, show max cm (M.nxt i 1 + 1) = cm by omega]
              case measure => simp [intOf]
          · have ix := Try.idx2 (.int .i64 (M.nxt i 0)) (.int .i64 (M.nxt i 1)) (.int .i64 (M.nxt i 2)) (.int .i64 (M.nxt i 3)) (.int .i64 (M.nxt i 4)) (.int .i64 (M.nxt i 5)) (.int .i64 (M.nxt i 6)) (.int .i64 (M.nxt i 7))
            by_cases hq : M.nxt i 2 = cm
            · have hb : ((M.nxt i 2 : Int) == (cm : Int)) = true := by simp; omega
              have HQ : Hid (M.nxt i 2 = cm) := hq
              clear hq
              go_wp2_with fail
              go_round
              case rel =>
                refine ⟨2 + 1, by omega, by go_num, ?_⟩
                have := HQ.out
                rw [HCS2.out, show max cm (M.nxt i 2 + 1) = cm + 1 by omega]; go_num
              case measure => simp [intOf]
            · have hb : ((M.nxt i 2 : Int) == (cm : Int)) = false := by simp; omega
              have HQ : Hid (M.nxt i 2 < cm) := by unfold Hid; omega
              clear hq
              go_wp2_with fail
              go_round
              case rel =>
                refine ⟨2 + 1, by omega, by go_num, ?_⟩
                have := HQ.out
                rw [HCS2.out, show max cm (M.nxt i 2 + 1) = cm by omega]
              case measure => simp [intOf]
          · have ix := Try.idx3 (.int .i64 (M.nxt i 0)) (.int .i64 (M.nxt i 1)) (.int .i64 (M.nxt i 2)) (.int .i64 (M.nxt i 3)) (.int .i64 (M.nxt i 4)) (.int .i64 (M.nxt i 5)) (.int .i64 (M.nxt i 6)) (.int .i64 (M.nxt i 7))
            by_cases hq : M.nxt i 3 = cm
            · have hb : ((M.nxt i 3 : Int) == (cm : Int)) = true := by simp; omega
              have HQ : Hid (M.nxt i 3 = cm) := hq
              clear hq
              go_wp2_with fail
              go_round
              case rel =>
                refine ⟨3 + 1, by omega, by go_num, ?_⟩
                have := HQ.out
                rw [HCS2.out, show max cm (M.nxt i 3 + 1) = cm + 1 by omega]; go_num
              case measure => simp [intOf]
            · have hb : ((M.nxt i 3 : Int) == (cm : Int)) = false := by simp; omega
              have HQ : Hid (M.nxt i 3 < cm) := by unfold Hid; omega
              clear hq
              go_wp2_with fail
              go_round
              case rel =>
                refine ⟨3 + 1, by omega, by go_num, ?_⟩
                have := HQ.out
                rw [HCS2.out, show max cm (M.nxt i 3 + 1) = cm by omega]
              case measure => simp [intOf]
          · have ix := Try.idx4 (.int .i64 (M.nxt i 0)) (.int .i64 (M.nxt i 1)) (.int .i64 (M.nxt i 2)) (.int .i64 (M.nxt i 3)) (.int .i64 (M.nxt i 4)) (.int .i64 (M.nxt i 5)) (.int .i64 (M.nxt i 6)) (.int .i64 (M.nxt i 7))
            by_cases hq : M.nxt i 4 = cm
            · have hb : ((M.nxt i 4 : Int) == (cm : Int)) = true := by simp; omega
              have HQ : Hid (M.nxt i 4 = cm) := hq
              clear hq
              go_wp2_with fail
              go_round
              case rel =>
                refine ⟨4 + 1, by omega, by go_num, ?_⟩
                have := HQ.out
                rw [HCS2.out, show max cm (M.nxt i 4 + 1) = cm + 1 by omega]; go_num
              case measure => simp [intOf]
            · have hb : ((M.nxt i 4 : Int) == (cm : Int)) = false := by simp; omega
              have HQ : Hid (M.nxt i 4 < cm) := by unfold Hid; omega
              clear hq
              go_wp2_with fail
              go_round
              case rel =>
                refine ⟨4 + 1, by omega, by go_num, ?_⟩
                have := HQ.out
                rw [HCS2.out, show max cm (M.nxt i 4 + 1) = cm by omega]
              case measure => simp [intOf]
          · have ix := Try.idx5 (.int .i64 (M.nxt i 0)) (.int .i64 (M.nxt i 1)) (.int .i64 (M.nxt i 2)) (.int .i64 (M.nxt i 3)) (.int .i64 (M.nxt i 4)) (.int .i64 (M.nxt i 5)) (.int .i64 (M.nxt i 6)) (.int .i64 (M.nxt i 7))
            by_cases hq : M.nxt i 5 = cm
            · have hb : ((M.nxt i 5 : Int) == (cm : Int)) = true := by simp; omega
              have HQ : Hid (M.nxt i 5 = cm) := hq
              clear hq
              go_wp2_with fail
              go_round
              case rel =>
                refine ⟨5 + 1, by omega, by go_num, ?_⟩
                have := HQ.out
                rw [HCS2.out, show max cm (M.nxt i 5 + 1) = cm + 1 by omega]; go_num
              case measure => simp [intOf]
            · have hb : ((M.nxt i 5 : Int) == (cm : Int)) = false := by simp; omega
              have HQ : Hid (M.nxt i 5 < cm) := by unfold Hid; omega
              clear hq
              go_wp2_with fail
              go_round
              case rel =>
                refine ⟨5 + 1, by omega, by go_num, ?_⟩
                have := HQ.out
                rw [HCS2.out, show max cm (M.nxt i 5 + 1) = cm by omega]
              case measure => simp [intOf]
          · have ix := Try.idx6 (.int .i64 (M.nxt i 0)) (.int .i64 (M.nxt i 1)) (.int .i64 (M.nxt i 2)) (.int .i64 (M.nxt i 3)) (.int .i64 (M.nxt i 4)) (.int .i64 (M.nxt i 5)) (.int .i64 (M.nxt i 6)) (.int .i64 (M.nxt i 7))
            by_cases hq : M.nxt i 6 = cm
            · have hb : ((M.nxt i 6 : Int) == (cm : Int)) = true := by simp; omega
              have HQ : Hid (M.nxt i 6 = cm) := hq
              clear hq
              go_wp2_with fail
              go_round
              case rel =>
                refine ⟨6 + 1, by omega, by go_num, ?_⟩
                have := HQ.out
                rw [HCS2.out, show max cm (M.nxt i 6 + 1) = cm + 1 by omega]; go_num
              case measure => simp [intOf]
            · have hb : ((M.nxt i 6 : Int) == (cm : Int)) = false := by simp; omega
              have HQ : Hid (M.nxt i 6 < cm) := by unfold Hid; omega
              clear hq
              go_wp2_with fail
              go_round
              case rel =>
                refine ⟨6 + 1, by omega, by go_num, ?_⟩
                have := HQ.out
                rw [HCS2.out, show max cm (M.nxt i 6 + 1) = cm by omega]
              case measure => simp [intOf]
          · have ix := Try.idx7 (.int .i64 (M.nxt i 0)) (.int .i64 (M.nxt i 1)) (.int .i64 (M.nxt i 2)) (.int .i64 (M.nxt i 3)) (.int .i64 (M.nxt i 4)) (.int .i64 (M.nxt i 5)) (.int .i64 (M.nxt i 6)) (.int .i64 (M.nxt i 7))
            by_cases hq : M.nxt i 7 = cm
            · have hb : ((M.nxt i 7 : Int) == (cm : Int)) = true := by simp; omega
              have HQ : Hid (M.nxt i 7 = cm) := hq
              clear hq
              go_wp2_with fail
              go_round
              case rel =>
                refine ⟨7 + 1, by omega, by go_num, ?_⟩
                have := HQ.out
                rw [HCS2.out, show max cm (M.nxt i 7 + 1) = cm + 1 by omega]; go_num
              case measure => simp [intOf]
            · have hb : ((M.nxt i 7 : Int) == (cm : Int)) = false := by simp; omega
              have HQ : Hid (M.nxt i 7 < cm) := by unfold Hid; omega
              clear hq
              go_wp2_with fail
              go_round
              case rel =>
                refine ⟨7 + 1, by omega, by go_num, ?_⟩
                have := HQ.out
                rw [HCS2.out, show max cm (M.nxt i 7 + 1) = cm by omega]
              case measure => simp [intOf]
        · have he : c = 8 := by omega
          subst he
          rw [show 8 * i + 8 = 8 * (i + 1) by omega] at hc2 hcp2 ⊢
          obtain ⟨cm, HC⟩ : ∃ x, Hid (come M.nxt (8 * (i + 1)) = x) := ⟨_, rfl⟩
          rw [HC.out] at hc2 hcp2 ⊢
          go_wp2_with fail
          go_round
          case rel => exact ⟨i + 1, by omega, by go_num, by rw [HC.out]⟩
          case measure => simp [intOf]; omega
    · have he : i = M.n := by omega
      subst he
      rw [hN.all]
      have hb : ((M.n : Int) == (M.n : Int)) = true := by simp
      clear hcl hc1 hcp hcel
      go_wp2_with fail
      go_ret
      exact ⟨rfl, rfl⟩
end Go.Proofs.Ytpngikmcjkjdaab

namespace Go.Proofs.Ytpngikmcjkjdaab
open Go.RowKit
set_option linter.unusedVariables false
set_option maxRecDepth 20000 in
set_option maxHeartbeats 2000000 in
theorem add_ok (gw base : Nat) (va vn : Value) (k : Nat) (xa xn : List Value) (a : Bool) (r : Nat → Nat) (w : World) (hb : w.heap[gw]? = some (.cells #[va, vn] 125 (0, 0)))
    (h0 : w.ownsRow base 4 1 va k xa) (h1 : w.ownsRow base 113 8 vn k xn) (hlt : gw < base) (hbase : base ≤ w.heap.size) (hk : k ≤ 100000000) :
    Calls Try.prog 78 #[.pointer (some ⟨gw, 0, none⟩), .bool a, .agg (row8 r)] w fun e w' => e = .returned (.tuple #[]) ∧
      ∃ va' vn', w'.heap[gw]? = some (.cells #[va', vn'] 125 (0, 0)) ∧ w'.ownsRow base 4 1 va' (k + 1) (xa ++ [.bool a]) ∧ w'.ownsRow base 113 8 vn' (k + 1) (xn ++ (row8 r).toList) ∧
        Touch (fun b => b = gw ∨ va.ownBlock = some b ∨ vn.ownBlock = some b) w w' ∧ (∀ g, va'.ownBlock = some g → va.ownBlock = some g ∨ w.heap.size ≤ g) ∧ (∀ g, vn'.ownBlock = some g → vn.ownBlock = some g ∨ w.heap.size ≤ g) := by
  obtain ⟨i4, hi4, hz4, hz41, hz42⟩ := info_parts Try.info4
  obtain ⟨i8, hi8, hz8, hz81, hz82⟩ := info_parts Try.infoE
  have hgs := heap_lt hb
  obtain ⟨W, hW⟩ : ∃ W, W = w.alloc (.cells (row8 r) 113) := ⟨_, rfl⟩
  have hWs : w.heap.size + 1 ≤ W.heap.size := by rw [hW]; simp
  have bw : W.heap[gw]? = some (.cells #[va, vn] 125 (0, 0)) := by rw [hW]; exact heap_at_old hb
  have br : W.heap[w.heap.size]? = some (.cells (row8 r) 113 (0, 0)) := by rw [hW]; exact heap_at_new rfl
  have T0 : Touch (fun b => b = gw ∨ va.ownBlock = some b ∨ vn.ownBlock = some b) w W := by rw [hW]; exact (Touch.refl _ _).alloc _
  have o0 : W.ownsRow base 4 1 va k xa := by rw [hW]; exact h0.alloc _
  have o1 : W.ownsRow base 113 8 vn k xn := by rw [hW]; exact h1.alloc _
  obtain ⟨y0, y1, z0, z1⟩ := cell_two bw
  have HX : Hid (W = w.alloc (.cells (row8 r) 113)) := hW
  unfold row8 at hW
  unfold row8
  go_enter Try.func78, Try.ntmps78
  go_upto_region 1 with fail
  rw [← hW]
  have l0 := fun g e => h0.lt g e
  have l1 := fun g e => h1.lt g e
  clear hW HX hb h0 h1
  have hna := o0.alloc (.cells #[.bool a] 4)
  have hbo : base ≤ (W.alloc (.cells #[.bool a] 4)).heap.size := by simp; omega
  have HG : ∀ g cap w2, w2.ownsRow base 4 1 (.slice (some ⟨g, 0, none⟩) (k + 1) cap) (k + 1) (xa ++ [.bool a]) → (W.alloc (.cells #[.bool a] 4)).grownBy w2 va.ownBlock → (va.ownBlock = some g ∨ g = (W.alloc (.cells #[.bool a] 4)).heap.size) →
      w2.heap[gw]? = some (.cells #[va, vn] 125 (0, 0)) ∧ Hid (Touch (fun b => b = gw ∨ va.ownBlock = some b ∨ vn.ownBlock = some b) w w2 ∧ w2.ownsRow base 113 8 vn k xn ∧ w2.heap[w.heap.size]? = some (.cells (row8 r) 113 (0, 0)) ∧ W.heap.size ≤ w2.heap.size) := by
    intro g cap w2 ho hg hf
    have hsz := hg.size
    simp at hsz
    refine ⟨?_, (T0.alloc _).grown hg (fun k e => .inl (.inr (.inl e))), ?_, ?_, by omega⟩
    · rw [hg.block gw (by simp; omega) (fun e => by have := (l0 gw e.symm).1; omega)]; exact heap_at_old bw
    · refine (o1.alloc _).kept hg ?_
      cases hv : vn.ownBlock with
      | none => exact .inl rfl
      | some x => exact .inr (fun e => own_apart o1 o0 (by decide) x hv e.symm)
    · rw [hg.block w.heap.size (by simp; omega) (fun e => by have h2 := (l0 _ e.symm).2; omega)]; exact heap_at_old br
  clear bw br T0 o0 o1
  have hss : gw < W.heap.size := by omega
  go_upto_region 2 with (at_builtin; refine wpList_append_fresh _ rfl _ _ 27 rfl base 4 i4 (.bool false) 1 1 Try.underlying27 hi4 hz4 hz41 hz42 rfl (by decide) _ k xa rfl hna ⟨W.heap.size, 0, none⟩ 1 1 [.bool a] rfl rfl (cell_one_new _ _ _) (by intro u hu; simp at hu; subst hu; rfl) (by decide) (by unfold maxLen; omega) (by omega) hbo ?_; intro g cap w2 hown hgr hfr; obtain ⟨f0, F⟩ := HG g cap w2 hown hgr hfr; obtain ⟨f3, f4, f5, f6⟩ := cell_two f0)
  obtain ⟨F1, F2, F3, F4⟩ := F.out
  obtain ⟨W5, hW5⟩ : ∃ W5, W5 = w2.setCell ⟨gw, 0, none⟩ (.slice (some ⟨g, 0, none⟩) (k + 1) cap) := ⟨_, rfl⟩
  have hW5s : w2.heap.size ≤ W5.heap.size := by rw [hW5]; simp
  have b5 : W5.heap[gw]? = some (.cells #[.slice (some ⟨g, 0, none⟩) (k + 1) cap, vn] 125 (0, 0)) := by rw [hW5]; exact two_set0 f0
  have r5 : W5.heap[w.heap.size]? = some (.cells (row8 r) 113 (0, 0)) := by rw [hW5]; exact heap_set_other F3 (by simp; omega)
  have T5 : Touch (fun b => b = gw ∨ va.ownBlock = some b ∨ vn.ownBlock = some b) w W5 := by rw [hW5]; exact F1.set _ _ (.inl (.inl rfl))
  have o05 : W5.ownsRow base 4 1 (.slice (some ⟨g, 0, none⟩) (k + 1) cap) (k + 1) (xa ++ [.bool a]) := by rw [hW5]; exact ownsRow_setCell_below hown (by simp; omega) _
  have o15 : W5.ownsRow base 113 8 vn k xn := by rw [hW5]; exact ownsRow_setCell_below F2 (by simp; omega) _
  have fa : va.ownBlock = some g ∨ w.heap.size ≤ g := by
    rcases hfr with h | h
    · exact .inl h
    · right; rw [h]; simp; omega
  rw [← hW5]
  clear hW5 f0 f3 f4 f5 f6 F F1 F2 F3 HG hgr hown hfr hna hbo y0 y1 z0 z1
  obtain ⟨y0, y1, z0, z1⟩ := cell_two b5
  have c0 := cell_of_row W5 w.heap.size 0 (row8 r) 113 (0, 0) r5
  have c1 := cell_of_row W5 w.heap.size 1 (row8 r) 113 (0, 0) r5
  have c2 := cell_of_row W5 w.heap.size 2 (row8 r) 113 (0, 0) r5
  have c3 := cell_of_row W5 w.heap.size 3 (row8 r) 113 (0, 0) r5
  have c4 := cell_of_row W5 w.heap.size 4 (row8 r) 113 (0, 0) r5
  have c5 := cell_of_row W5 w.heap.size 5 (row8 r) 113 (0, 0) r5
  have c6 := cell_of_row W5 w.heap.size 6 (row8 r) 113 (0, 0) r5
  have c7 := cell_of_row W5 w.heap.size 7 (row8 r) 113 (0, 0) r5
  simp [row8] at c0 c1 c2 c3 c4 c5 c6 c7
  have hna := o15.alloc (.cells (row8 r) 113)
  have hbo : base ≤ (W5.alloc (.cells (row8 r) 113)).heap.size := by simp; omega
  have hss5 : gw < W5.heap.size := by omega
  have HG : ∀ g' cap' w6, w6.ownsRow base 113 8 (.slice (some ⟨g', 0, none⟩) (k + 1) cap') (k + 1) (xn ++ (row8 r).toList) → (W5.alloc (.cells (row8 r) 113)).grownBy w6 vn.ownBlock → (vn.ownBlock = some g' ∨ g' = (W5.alloc (.cells (row8 r) 113)).heap.size) →
      w6.heap[gw]? = some (.cells #[.slice (some ⟨g, 0, none⟩) (k + 1) cap, vn] 125 (0, 0)) ∧ Hid (Touch (fun b => b = gw ∨ va.ownBlock = some b ∨ vn.ownBlock = some b) w w6 ∧ w6.ownsRow base 4 1 (.slice (some ⟨g, 0, none⟩) (k + 1) cap) (k + 1) (xa ++ [.bool a])) := by
    intro g' cap' w6 ho hg hf
    have hsz := hg.size
    simp at hsz
    refine ⟨?_, (T5.alloc _).grown hg (fun k e => .inl (.inr (.inr e))), ?_⟩
    · rw [hg.block gw (by simp; omega) (fun e => by have := (l1 gw e.symm).1; omega)]; exact heap_at_old b5
    · refine (o05.alloc _).kept hg ?_
      by_cases hv : vn.ownBlock = some g
      · exact absurd (own_apart o15 o05 (by decide) g hv rfl) id
      · exact .inr (fun e => hv e.symm)
  clear b5 r5 T5 o05 o15
  unfold row8 at hna hbo HG
  have HGG : Hid _ := HG
  clear HG
  go_region_law
    ((refine step_append_lies _ (by rfl) _ _ _ (by rfl) base 113 i8 (.agg #[.int .i64 0, .int .i64 0, .int .i64 0, .int .i64 0, .int .i64 0, .int .i64 0, .int .i64 0, .int .i64 0]) 8 64 Try.underlying123 hi8 hz8 hz81 hz82 rfl (by decide) vn k xn (by rfl) hna ⟨W5.heap.size, 0, none⟩ 1 1 [.int .i64 ((r 0 : Nat) : Int), .int .i64 ((r 1 : Nat) : Int), .int .i64 ((r 2 : Nat) : Int), .int .i64 ((r 3 : Nat) : Int), .int .i64 ((r 4 : Nat) : Int), .int .i64 ((r 5 : Nat) : Int), .int .i64 ((r 6 : Nat) : Int), .int .i64 ((r 7 : Nat) : Int)] (by rfl) (by rfl) (cells_new _ _ _) (by intro u hu; simp at hu; rcases hu with rfl | rfl | rfl | rfl | rfl | rfl | rfl | rfl <;> rfl) (by decide) (by unfold maxLen; omega) (by omega) (by simp; omega) (W5.heap.size + 1) (by simp) ?_; intro g' cap' w6 hown' hgr' hfr' hlt2; obtain ⟨f0, F⟩ := HGG.out g' cap' w6 hown' ⟨hgr'.os, hgr'.tape, hgr'.output, hgr'.size, hgr'.block⟩ (by simpa using hfr'); obtain ⟨f3, f4, f5, f6⟩ := cell_two f0; have HFR : Hid _ := hfr'; clear hfr'))
  all_goals go_wp2_with fail
  all_goals
    obtain ⟨F1, F2⟩ := F.out
    go_end0
    refine ⟨rfl, .slice (some ⟨g, 0, none⟩) (k + 1) cap, .slice (some ⟨g', 0, none⟩) (k + 1) cap', two_set1 f0, ownsRow_setCell_below F2 (by simp; omega) _, ownsRow_setCell_below hown' (by simp; omega) _, F1.set _ _ (.inl (.inl rfl)), ?_, ?_⟩
    · intro x hx
      simp only [Value.ownBlock, Option.some.injEq] at hx; subst hx; exact fa
    · intro x hx
      simp only [Value.ownBlock, Option.some.injEq] at hx; subst hx
      rcases HFR.out with h | h
      · exact .inl h
      · right; rw [h]; omega
end Go.Proofs.Ytpngikmcjkjdaab

namespace Go.Proofs.Ytpngikmcjkjdaab
open Go.RowKit
set_option linter.unusedVariables false
def zs (n : Nat) : Array Value := Array.replicate n (.int .i64 0)
def pcells (ps : List Nat) : List Value := ps.flatMap fun q => [.int .i64 ((q / 40 : Nat) : Int), .int .i64 ((q % 40 : Nat) : Int)]
def metv (ps : List Nat) (q : Nat) : Nat := if q ∈ ps then ps.idxOf q + 1 else 0
theorem metv_new (ps : List Nat) (q r : Nat) (hq : q ∉ ps) : metv (ps ++ [q]) r = if r = q then ps.length + 1 else metv ps r := by
  unfold metv
  by_cases e : r = q
  · subst e; simp [List.idxOf_append, hq]
  · by_cases h : r ∈ ps
    · simp [h, e, List.idxOf_append]
    · simp [h, e]
structure PairMem (W : World) (B : Nat) (w : World) (ps : List Nat) (vp va vn : Value) (k k' : Nat) (xa xn : List Value) : Prop where
  blw : Below (B + 1 + 1) W w
  blk : w.heap[B + 1 + 1]? = some (.cells #[va, vn] 125 (0, 0))
  met : w.rowIs (B + 1 + 1 + 1) 129 1600 (fun q => .int .i64 (metv ps q : Nat))
  own0 : w.ownsRow (B + 1 + 1 + 1 + 1) 4 1 va k xa
  own1 : w.ownsRow (B + 1 + 1 + 1 + 1) 113 8 vn k' xn
  own2 : w.ownsRow (B + 1 + 1 + 1 + 1) 131 2 vp ps.length (pcells ps)
structure RoundMem (W : World) (B H : Nat) (w : World) (ps : List Nat) (vp va vn : Value) (k : Nat) (xa xn : List Value) (i j : Nat) (r : Nat → Nat) : Prop where
  mem : PairMem W B w ps vp va vn k k xa xn
  here : w.heap[H]? = some (.cells #[.int .i64 (i : Int), .int .i64 (j : Int)] 131 (0, 0))
  rw : w.rowIs (H + 1) 113 8 (fun c => .int .i64 (r c : Nat))
  lo : B + 1 + 1 + 1 + 1 ≤ H
  dp : ∀ g, vp.ownBlock = some g → g ≠ H ∧ g ≠ H + 1
  da : ∀ g, va.ownBlock = some g → g < H
  dn : ∀ g, vn.ownBlock = some g → g < H
section
variable {W : World} {B H : Nat} {w w2 : World} {ps : List Nat} {vp va vn : Value} {k : Nat} {xa xn : List Value} {i j : Nat} {r : Nat → Nat}
theorem PairMem.alloc {k' : Nat} (h : PairMem W B w ps vp va vn k k' xa xn) (o : Obj) : PairMem W B (w.alloc o) ps vp va vn k k' xa xn where
  blw := h.blw.alloc (by have := heap_lt h.blk; omega) o
  blk := heap_at_old h.blk
  met := h.met.alloc o
  own0 := h.own0.alloc o
  own1 := h.own1.alloc o
  own2 := h.own2.alloc o
theorem RoundMem.alloc (h : RoundMem W B H w ps vp va vn k xa xn i j r) (o : Obj) : RoundMem W B H (w.alloc o) ps vp va vn k xa xn i j r :=
  ⟨h.mem.alloc o, heap_at_old h.here, h.rw.alloc o, h.lo, h.dp, h.da, h.dn⟩
theorem RoundMem.grown (h : RoundMem W B H w ps vp va vn k xa xn i j r) {q g cap : Nat} (hown : w2.ownsRow (B + 1 + 1 + 1 + 1) 131 2 (.slice (some ⟨g, 0, none⟩) (ps.length + 1) cap) (ps.length + 1) (pcells (ps ++ [q])))
    (hg : w.grownBy w2 vp.ownBlock) (hf : vp.ownBlock = some g ∨ g = w.heap.size) :
    Below (B + 1 + 1) W w2 ∧ w2.heap[B + 1 + 1]? = some (.cells #[va, vn] 125 (0, 0)) ∧ w2.rowIs (B + 1 + 1 + 1) 129 1600 (fun q => .int .i64 (metv ps q : Nat)) ∧
      w2.ownsRow (B + 1 + 1 + 1 + 1) 4 1 va k xa ∧ w2.ownsRow (B + 1 + 1 + 1 + 1) 113 8 vn k xn ∧
      w2.heap[H]? = some (.cells #[.int .i64 (i : Int), .int .i64 (j : Int)] 131 (0, 0)) ∧ w2.rowIs (H + 1) 113 8 (fun c => .int .i64 (r c : Nat)) ∧ (g ≠ H ∧ g ≠ H + 1) := by
  have hm := h.mem
  have hsz := heap_lt hm.blk
  have hlt := fun x e => hm.own2.lt x e
  have hH := heap_lt h.here
  have hH1 := h.rw.lt
  refine ⟨hm.blw.grown hg (by omega) (fun x e => by have := (hlt x e).1; omega), ?_, rowIs_grown hm.met hg (fun e => by have := (hlt _ e).1; omega), ?_, ?_, ?_, rowIs_grown h.rw hg (fun e => (h.dp _ e).2 rfl), ?_⟩
  · rw [hg.block _ hsz (fun e => by have := (hlt _ e.symm).1; omega)]; exact hm.blk
  · refine hm.own0.kept hg ?_
    cases hv : va.ownBlock with
    | none => exact .inl rfl
    | some x => exact .inr (fun e => own_apart hm.own0 hm.own2 (by decide) x hv e.symm)
  · refine hm.own1.kept hg ?_
    cases hv : vn.ownBlock with
    | none => exact .inl rfl
    | some x => exact .inr (fun e => own_apart hm.own1 hm.own2 (by decide) x hv e.symm)
  · rw [hg.block _ hH (fun e => (h.dp _ e.symm).1 rfl)]; exact h.here
  · rcases hf with hf | rfl
    · exact h.dp g hf
    · omega
theorem RoundMem.new (h : RoundMem W B H w ps vp va vn k xa xn i j r) {q g cap c : Nat} (hq : q ∉ ps) (hown : w2.ownsRow (B + 1 + 1 + 1 + 1) 131 2 (.slice (some ⟨g, 0, none⟩) (ps.length + 1) cap) (ps.length + 1) (pcells (ps ++ [q])))
    (hg : w.grownBy w2 vp.ownBlock) (hf : vp.ownBlock = some g ∨ g = w.heap.size) :
    RoundMem W B H ((w2.setCell ⟨B + 1 + 1 + 1, q, none⟩ (.int .i64 ((ps.length : Int) + 1))).setCell ⟨H + 1, c, none⟩ (.int .i64 (ps.length : Int))) (ps ++ [q]) (.slice (some ⟨g, 0, none⟩) (ps.length + 1) cap) va vn k xa xn i j (fun x => if x = c then ps.length else r x) := by
  obtain ⟨g1, g2, g3, g4, g5, g6, g7, g8⟩ := h.grown hown hg hf
  have hlo := h.lo
  refine ⟨⟨(g1.setCell (p := ⟨B + 1 + 1 + 1, q, none⟩) (by simp) _).setCell (p := ⟨H + 1, c, none⟩) (by simp; omega) _, heap_set_other (heap_set_other g2 (by simp)) (by simp; omega), ?_, ?_, ?_, ?_⟩,
    heap_set_other (heap_set_other g6 (by simp; omega)) (by simp), ?_, h.lo, ?_, h.da, h.dn⟩
  · refine ((g3.set q _).setOther (by simp; omega) _).congr (fun x _ => ?_)
    rw [metv_new ps q x hq]
    by_cases e : x = q
    · simp [e]
    · simp [e]
  · exact ownsRow_set (ownsRow_set g4 _ _ (fun x hx => by have := (g4.lt x hx).1; simp; omega)) _ _ (fun x hx => by have := h.da x hx; simp; omega)
  · exact ownsRow_set (ownsRow_set g5 _ _ (fun x hx => by have := (g5.lt x hx).1; simp; omega)) _ _ (fun x hx => by have := h.dn x hx; simp; omega)
  · simp only [List.length_append, List.length_singleton]
    exact ownsRow_set (ownsRow_set hown _ _ (fun x hx => by have := (hown.lt x hx).1; simp; omega)) _ _ (fun x hx => by simp only [Value.ownBlock, Option.some.injEq] at hx; subst hx; simpa using g8.2)
  · refine ((g7.setOther (a := ⟨B + 1 + 1 + 1, q, none⟩) (by simp; omega) _).set c _).congr (fun x _ => ?_)
    by_cases e : x = c
    · simp [e]
    · simp [e]
  · intro x hx
    simp only [Value.ownBlock, Option.some.injEq] at hx; subst hx; exact g8
theorem RoundMem.old (h : RoundMem W B H w ps vp va vn k xa xn i j r) {c v : Nat} :
    RoundMem W B H (w.setCell ⟨H + 1, c, none⟩ (.int .i64 (v : Int))) ps vp va vn k xa xn i j (fun x => if x = c then v else r x) := by
  have hm := h.mem
  have hlo := h.lo
  refine ⟨⟨hm.blw.setCell (p := ⟨H + 1, c, none⟩) (by simp; omega) _, heap_set_other hm.blk (by simp; omega), hm.met.setOther (by simp; omega) _, ?_, ?_, ?_⟩, heap_set_other h.here (by simp), ?_, h.lo, h.dp, h.da, h.dn⟩
  · exact ownsRow_set hm.own0 _ _ (fun x hx => by have := h.da x hx; simp; omega)
  · exact ownsRow_set hm.own1 _ _ (fun x hx => by have := h.dn x hx; simp; omega)
  · exact ownsRow_set hm.own2 _ _ (fun x hx => by have := (h.dp x hx).2; simpa using this)
  · refine (h.rw.set c _).congr (fun x _ => ?_)
    by_cases e : x = c
    · simp [e]
    · simp [e]
theorem RoundMem.drewN (h : RoundMem W B H w ps vp va vn k xa xn i j r) (q : Nat) : RoundMem W B H (w.drewN q) ps vp va vn k xa xn i j r :=
  ⟨⟨below_drewN h.mem.blw q, h.mem.blk, h.mem.met, h.mem.own0, h.mem.own1, h.mem.own2⟩, h.here, h.rw, h.lo, h.dp, h.da, h.dn⟩
theorem RoundMem.add (h : RoundMem W B H w ps vp va vn k xa xn i j r) {va' vn' : Value} {ya yn : List Value} (hb : w2.heap[B + 1 + 1]? = some (.cells #[va', vn'] 125 (0, 0)))
    (h0 : w2.ownsRow (B + 1 + 1 + 1 + 1) 4 1 va' (k + 1) ya) (h1 : w2.ownsRow (B + 1 + 1 + 1 + 1) 113 8 vn' (k + 1) yn)
    (ht : Touch (fun b => b = B + 1 + 1 ∨ va.ownBlock = some b ∨ vn.ownBlock = some b) w w2) : PairMem W B w2 ps vp va' vn' (k + 1) (k + 1) ya yn := by
  have hm := h.mem
  have hsz := heap_lt hm.blk
  refine ⟨ht.below hm.blw (by omega) ?_, hb, ht.row hm.met ?_, h0, h1, ht.own hm.own2 ?_⟩
  · rintro x (rfl | e | e)
    · omega
    · have := (hm.own0.lt _ e).1; omega
    · have := (hm.own1.lt _ e).1; omega
  · rintro (e | e | e)
    · omega
    · have := (hm.own0.lt _ e).1; omega
    · have := (hm.own1.lt _ e).1; omega
  · rintro g hg (rfl | e | e)
    · have := (hm.own2.lt _ hg).1; omega
    · exact own_apart hm.own2 hm.own0 (by decide) g hg e
    · exact own_apart hm.own2 hm.own1 (by decide) g hg e
theorem RoundMem.rcongr (h : RoundMem W B H w ps vp va vn k xa xn i j r) {r' : Nat → Nat} (e : ∀ x, x < 8 → r x = r' x) : RoundMem W B H w ps vp va vn k xa xn i j r' :=
  ⟨h.mem, h.here, h.rw.congr (fun x hx => by rw [e x hx]), h.lo, h.dp, h.da, h.dn⟩
end
end Go.Proofs.Ytpngikmcjkjdaab
