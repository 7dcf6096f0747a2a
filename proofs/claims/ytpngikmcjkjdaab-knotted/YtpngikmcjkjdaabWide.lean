import Derived.Test.YtpngikmcjkjdaabShrink
import Derived.Test.YtpngikmcjkjdaabPairP
namespace Go.Proofs.Ytpngikmcjkjdaab
open Go.RowKit
set_option linter.unusedVariables false

/-- What a call answers that makes the least table of a language, within a budget. -/
def LeastPost (L : List Nat → Bool) (budget bound : Nat) (w : World) (e : Ending) (w' : World) : Prop :=
  Below w.heap.size w w' ∧
    ((∃ (R : Tab) (V : Lay), IsLeast R L ∧ R.n ≤ budget ∧ e = .returned (.tuple #[.agg #[.slice (some ⟨V.ba, V.oa, none⟩) R.n V.ca, .slice (some ⟨V.bn, V.on, none⟩) R.n V.cn], .int .i64 0]) ∧ TabAt w' V R ∧ V.From w.heap.size R.n ∧ Fresh w' V R.n) ∨
     (e = .returned (.tuple #[.agg #[.slice none 0 0, .slice none 0 0], .int .i64 5]) ∧ budget < bound ∧ ∀ R, IsLeast R L → budget < R.n))

theorem apart_ne {M : Tab} {i j : Nat} (h : Apart M i j) : i ≠ j := by
  intro e; subst e; obtain ⟨x, _, hd⟩ := h; exact hd rfl
theorem heads_le {M : Tab} (hs : List Nat) (hlt : ∀ c, c < hs.length → hs.getD c 0 < M.n) (hap : ∀ c d, c < d → d < hs.length → Apart M (hs.getD c 0) (hs.getD d 0)) : hs.length ≤ M.n := by
  refine nodup_bound M.n hs ?_ ?_
  · rw [List.Nodup, List.pairwise_iff_getElem]
    intro i j hi hj hij e
    have := apart_ne (hap i j hij hj)
    rw [List.getD_eq_getElem?_getD, List.getElem?_eq_getElem hi, List.getD_eq_getElem?_getD, List.getElem?_eq_getElem hj] at this
    exact this e
  · intro x hx
    obtain ⟨c, hc, rfl⟩ := mem_getD hx
    exact hlt c hc

theorem res_alloc {w : World} {b : Nat} {x y u v : Value} {t : TypeId} (h : w.heap[b]? = some (.cells #[x, y] t (0, 0))) (o : Obj) :
    (((w.setCell ⟨b, 0, none⟩ u).setCell ⟨b, 1, none⟩ v).alloc o).cell? ⟨b, 0, none⟩ = some u ∧ (((w.setCell ⟨b, 0, none⟩ u).setCell ⟨b, 1, none⟩ v).alloc o).cell? ⟨b, 1, none⟩ = some v :=
  ⟨(cell_two (heap_at_old (two_set1 (two_set0 h)))).1, (cell_two (heap_at_old (two_set1 (two_set0 h)))).2.1⟩
/-- The world behind the answer: two stores into the result's block, and a new block. -/
theorem below_res {w w5 : World} {b : Nat} (h : Below w.heap.size w w5) (hb : w.heap.size ≤ b) (u v : Value) : Below w.heap.size w ((w5.setCell ⟨b, 0, none⟩ u).setCell ⟨b, 1, none⟩ v) :=
  (h.setCell (p := ⟨b, 0, none⟩) hb _).setCell (p := ⟨b, 1, none⟩) hb _
theorem TabAt.res {w : World} {V : Lay} {M : Tab} (h : TabAt w V M) {N b : Nat} (hV : V.From N M.n) (hb : b < N) (u v : Value) : TabAt ((w.setCell ⟨b, 0, none⟩ u).setCell ⟨b, 1, none⟩ v) V M :=
  (h.set hV (p := ⟨b, 0, none⟩) hb u).set hV (p := ⟨b, 1, none⟩) hb v
theorem Lay.From.mono {V : Lay} {N N' n : Nat} (h : V.From N n) (hN : N' ≤ N) : V.From N' n := ⟨by have := h.a; omega, by have := h.b; omega, fun i hi => by have := h.r i hi; omega⟩

theorem Try.infoE : (Try.prog.info? 113).map (fun i => (i.zero, i.size, i.bytes)) = some (some (.agg #[.int .i64 0, .int .i64 0, .int .i64 0, .int .i64 0, .int .i64 0, .int .i64 0, .int .i64 0, .int .i64 0]), 8, 64) := by kernel_rfl
theorem cells_new (w : World) (l : Array Value) (t : TypeId) : ∀ j u, l.toList[j]? = some u → (w.alloc (.cells l t)).cell? ((⟨w.heap.size, 0, none⟩ : Addr).add j) = some u := by
  intro j u hu
  have hadd : (⟨w.heap.size, 0, none⟩ : Addr).add j = ⟨w.heap.size, j, none⟩ := by unfold Addr.add; split <;> simp_all
  rw [hadd, cell_of_row (w.alloc (.cells l t)) w.heap.size j l t (0, 0) (heap_at_new rfl)]
  simpa using hu

/-- The world has changed in the blocks of S alone, and grown. -/
structure Touch (S : Nat → Prop) (w w' : World) : Prop where
  os : w'.os = w.os
  tape : w'.tape = w.tape
  output : w'.output = w.output
  size : w.heap.size ≤ w'.heap.size
  block : ∀ k, k < w.heap.size → ¬ S k → w'.heap[k]? = w.heap[k]?
theorem Touch.below {S : Nat → Prop} {W w w' : World} {B : Nat} (h : Touch S w w') (hb : Below B W w) (hB : B ≤ w.heap.size) (hS : ∀ k, S k → B ≤ k) : Below B W w' :=
  ⟨h.os.trans hb.os, h.tape.trans hb.tape, h.output.trans hb.output, Nat.le_trans hb.size h.size, fun k hk => (h.block k (by omega) (fun hs => by have := hS k hs; omega)).trans (hb.block k hk)⟩
theorem Touch.own {S : Nat → Prop} {w w' : World} {base e s n : Nat} {v : Value} {x : List Value} (h : Touch S w w') (ho : w.ownsRow base e s v n x) (hS : ∀ g, v.ownBlock = some g → ¬ S g) : w'.ownsRow base e s v n x := by
  refine ⟨ho.1, ?_⟩
  rcases ho.2 with ⟨rfl, hn⟩ | ⟨g, cap, cur, rfl, hb, hg, r⟩
  · exact .inl ⟨rfl, hn⟩
  · exact .inr ⟨g, cap, cur, rfl, hb, by rw [h.block g (heap_lt hg) (hS g rfl)]; exact hg, r⟩
theorem Touch.row {S : Nat → Prop} {w w' : World} {b t n : Nat} {f : Nat → Value} (h : Touch S w w') (hr : w.rowIs b t n f) (hS : ¬ S b) : w'.rowIs b t n f := hr.of_block (h.block b hr.lt hS)
theorem Touch.heap {S : Nat → Prop} {w w' : World} {b : Nat} {o : Obj} (h : Touch S w w') (hr : w.heap[b]? = some o) (hS : ¬ S b) : w'.heap[b]? = some o := by rw [h.block b (heap_lt hr) hS]; exact hr
theorem Touch.alloc {S : Nat → Prop} {w w' : World} (h : Touch S w w') (o : Obj) : Touch S w (w'.alloc o) :=
  ⟨h.os, h.tape, h.output, Nat.le_trans h.size (by simp), fun k hk hs => (Below.heap_alloc w' o k (Nat.lt_of_lt_of_le hk h.size)).trans (h.block k hk hs)⟩
theorem Touch.set {S : Nat → Prop} {w w' : World} (h : Touch S w w') (a : Addr) (u : Value) (ha : S a.block ∨ w.heap.size ≤ a.block) : Touch S w (w'.setCell a u) :=
  ⟨by rw [← h.os]; rfl, by rw [← h.tape]; rfl, by rw [← h.output]; rfl, Nat.le_trans h.size (by simp), fun k hk hs =>
    (Below.heap_setCell w' a u k (fun e => ha.elim (fun ha => hs (by rw [e]; exact ha)) (fun ha => by omega))).trans (h.block k hk hs)⟩
theorem Touch.grown {S : Nat → Prop} {w w' w2 : World} (h : Touch S w w') {row : Option Nat} (hg : w'.grownBy w2 row) (hr : ∀ k, row = some k → S k ∨ w.heap.size ≤ k) : Touch S w w2 :=
  ⟨hg.os.trans h.os, hg.tape.trans h.tape, hg.output.trans h.output, Nat.le_trans h.size hg.size, fun k hk hs =>
    (hg.block k (Nat.lt_of_lt_of_le hk h.size) (fun e => (hr k e.symm).elim (fun h1 => hs h1) (fun h1 => by omega))).trans (h.block k hk hs)⟩
theorem Touch.refl (S : Nat → Prop) (w : World) : Touch S w w := ⟨rfl, rfl, rfl, Nat.le_refl _, fun _ _ _ => rfl⟩
section
variable {w w2 : World}
theorem own_apart {base e e' s s' n n' : Nat} {v v' : Value} {x x' : List Value} (h : w.ownsRow base e s v n x) (h' : w.ownsRow base e' s' v' n' x') (hne : e ≠ e') (g : Nat) (hg : v.ownBlock = some g) (hg' : v'.ownBlock = some g) : False := by
  rcases h.2 with ⟨rfl, _⟩ | ⟨a, cap, cur, rfl, _, h1, _⟩
  · simp [Value.ownBlock] at hg
  · rcases h'.2 with ⟨rfl, _⟩ | ⟨a', cap', cur', rfl, _, h2, _⟩
    · simp [Value.ownBlock] at hg'
    · simp only [Value.ownBlock, Option.some.injEq] at hg hg'
      subst hg; subst hg'
      rw [h1] at h2
      simp only [Option.some.injEq, Obj.cells.injEq] at h2
      exact hne h2.2.1

theorem rowIs_grown {b t n : Nat} {f : Nat → Value} (h : w.rowIs b t n f) {row : Option Nat} (hg : w.grownBy w2 row) (hne : row ≠ some b) : w2.rowIs b t n f :=
  h.of_block (hg.block b h.lt (fun e => hne e.symm))

theorem ownsRow_set {base e s n : Nat} {v : Value} {x : List Value} (h : w.ownsRow base e s v n x) (a : Addr) (u : Value) (hne : ∀ g, v.ownBlock = some g → g ≠ a.block) : (w.setCell a u).ownsRow base e s v n x :=
  ownsRow_setCell_other h (fun e => hne _ e rfl) u

end
/-- The eight numbers of a row. -/
def row8 (r : Nat → Nat) : Array Value := #[.int .i64 ((r 0 : Nat) : Int), .int .i64 ((r 1 : Nat) : Int), .int .i64 ((r 2 : Nat) : Int), .int .i64 ((r 3 : Nat) : Int), .int .i64 ((r 4 : Nat) : Int), .int .i64 ((r 5 : Nat) : Int), .int .i64 ((r 6 : Nat) : Int), .int .i64 ((r 7 : Nat) : Int)]

theorem Try.idx0 (x0 x1 x2 x3 x4 x5 x6 x7 : Value) (w : World) : (Instr.index 113 (.agg #[x0, x1, x2, x3, x4, x5, x6, x7]) (.int .i64 0)).run Try.prog w = .ok x0 w := by kernel_rfl
theorem Try.idx1 (x0 x1 x2 x3 x4 x5 x6 x7 : Value) (w : World) : (Instr.index 113 (.agg #[x0, x1, x2, x3, x4, x5, x6, x7]) (.int .i64 1)).run Try.prog w = .ok x1 w := by kernel_rfl
theorem Try.idx2 (x0 x1 x2 x3 x4 x5 x6 x7 : Value) (w : World) : (Instr.index 113 (.agg #[x0, x1, x2, x3, x4, x5, x6, x7]) (.int .i64 2)).run Try.prog w = .ok x2 w := by kernel_rfl
theorem Try.idx3 (x0 x1 x2 x3 x4 x5 x6 x7 : Value) (w : World) : (Instr.index 113 (.agg #[x0, x1, x2, x3, x4, x5, x6, x7]) (.int .i64 3)).run Try.prog w = .ok x3 w := by kernel_rfl
theorem Try.idx4 (x0 x1 x2 x3 x4 x5 x6 x7 : Value) (w : World) : (Instr.index 113 (.agg #[x0, x1, x2, x3, x4, x5, x6, x7]) (.int .i64 4)).run Try.prog w = .ok x4 w := by kernel_rfl
theorem Try.idx5 (x0 x1 x2 x3 x4 x5 x6 x7 : Value) (w : World) : (Instr.index 113 (.agg #[x0, x1, x2, x3, x4, x5, x6, x7]) (.int .i64 5)).run Try.prog w = .ok x5 w := by kernel_rfl
theorem Try.idx6 (x0 x1 x2 x3 x4 x5 x6 x7 : Value) (w : World) : (Instr.index 113 (.agg #[x0, x1, x2, x3, x4, x5, x6, x7]) (.int .i64 6)).run Try.prog w = .ok x6 w := by kernel_rfl
theorem Try.idx7 (x0 x1 x2 x3 x4 x5 x6 x7 : Value) (w : World) : (Instr.index 113 (.agg #[x0, x1, x2, x3, x4, x5, x6, x7]) (.int .i64 7)).run Try.prog w = .ok x7 w := by kernel_rfl

set_option maxRecDepth 20000 in
set_option maxHeartbeats 2000000 in
theorem inOrder_ok (gn cn : Nat) (M : Tab) (w : World) (hcel : ∀ i c, i < M.n → c < 8 → w.cell? ⟨gn, i * 8 + c, none⟩ = some (.int .i64 (M.nxt i c))) (hN : Numbered M) (hn : M.n ≤ 100000000) :
    Calls Try.prog 74 #[.slice (some ⟨gn, 0, none⟩) M.n cn] w fun e w' => e = .returned (.bool true) ∧ w' = w := by
  have hcl := come_le hN
  go_enter Try.func74, Try.ntmps74
  go_wp2_with fail
  go_loop [3, 4] (fun cm i' => ∃ i : Nat, i ≤ M.n ∧ i' = .int .i64 i ∧ cm = .int .i64 (come M.nxt (8 * i))) (fun _ i' => M.n - (intOf i').toNat)
  case atStart => exact ⟨0, by omega, rfl, rfl⟩
  case round =>
    obtain ⟨i, hi, rfl, rfl⟩ := hrel
    have hc1 := hcl (8 * i) (by omega)
    have hcp := come_pos M.nxt (8 * i)
    by_cases hlt : i < M.n
    · have hrow := hN.row i hlt
      obtain ⟨cm0, HC0⟩ : ∃ x, Hid (come M.nxt (8 * i) = x) := ⟨_, rfl⟩
      rw [HC0.out] at hc1 hcp hrow ⊢
      have z0 := hcel i 0 hlt (by omega)
      have z1 := hcel i 1 hlt (by omega)
      have z2 := hcel i 2 hlt (by omega)
      have z3 := hcel i 3 hlt (by omega)
      have z4 := hcel i 4 hlt (by omega)
      have z5 := hcel i 5 hlt (by omega)
      have z6 := hcel i 6 hlt (by omega)
      have z7 := hcel i 7 hlt (by omega)
      rw [Nat.add_zero] at z0
      have HCL : Hid (∀ p, p ≤ 8 * M.n → come M.nxt p ≤ M.n) := hcl
      clear hcl hcel
      go_wp2_with fail
      clear z0 z1 z2 z3 z4 z5 z6 z7
      go_loop [3, 6, 20] (fun cm _ c' => ∃ c : Nat, c ≤ 8 ∧ c' = .int .i64 c ∧ cm = .int .i64 (come M.nxt (8 * i + c))) (fun _ _ c' => 8 - (intOf c').toNat)
      case atStart => exact ⟨0, by omega, rfl, by simp only [Nat.add_zero]; rw [HC0.out]⟩
      case round =>
        obtain ⟨c, hc, rfl, rfl⟩ := hrel
        have hc2 := HCL.out (8 * i + c) (by omega)
        have hcp2 := come_pos M.nxt (8 * i + c)
        by_cases hl8 : c < 8
        · have hnx := hN.nx i c hlt hl8
          have hst := hN.step (8 * i + c) (by omega)
          have HCS : Hid (come M.nxt (8 * i + (c + 1)) = max (come M.nxt (8 * i + c)) (M.nxt i c + 1)) := by
            unfold Hid; rw [← Nat.add_assoc]; simp only [come]
            rw [show (8 * i + c) / 8 = i by omega, show (8 * i + c) % 8 = c by omega]
          rw [show (8 * i + c) / 8 = i by omega, show (8 * i + c) % 8 = c by omega] at hst
          obtain ⟨cm, HC⟩ : ∃ x, Hid (come M.nxt (8 * i + c) = x) := ⟨_, rfl⟩
          have HCS2 : Hid (come M.nxt (8 * i + (c + 1)) = max cm (M.nxt i c + 1)) := by unfold Hid; rw [← HC.out]; exact HCS.out
          rw [HC.out] at hc2 hcp2 hst ⊢
          rcases (show c = 0 ∨ c = 1 ∨ c = 2 ∨ c = 3 ∨ c = 4 ∨ c = 5 ∨ c = 6 ∨ c = 7 by omega) with rfl | rfl | rfl | rfl | rfl | rfl | rfl | rfl
          · have ix := Try.idx0 (.int .i64 (M.nxt i 0)) (.int .i64 (M.nxt i 1)) (.int .i64 (M.nxt i 2)) (.int .i64 (M.nxt i 3)) (.int .i64 (M.nxt i 4)) (.int .i64 (M.nxt i 5)) (.int .i64 (M.nxt i 6)) (.int .i64 (M.nxt i 7))
            by_cases hq : M.nxt i 0 = cm
            · have hb : ((M.nxt i 0 : Int) == (cm : Int)) = true := by simp; omega
              have HQ : Hid (M.nxt i 0 = cm) := hq
              clear hq
              go_wp2_with fail
              go_round
              case rel =>
                refine ⟨0 + 1, by omega, by go_num, ?_⟩
                have := HQ.out
                rw [HCS2.out, show max cm (M.nxt i 0 + 1) = cm + 1 by omega]; go_num
              case measure => simp [intOf]
            · have hb : ((M.nxt i 0 : Int) == (cm : Int)) = false := by simp; omega
              have HQ : Hid (M.nxt i 0 < cm) := by unfold Hid; omega
              clear hq
              go_wp2_with fail
              go_round
              case rel =>
                refine ⟨0 + 1, by omega, by go_num, ?_⟩
                have := HQ.out
                rw [HCS2.out, show max cm (M.nxt i 0 + 1) = cm by omega]
              case measure => simp [intOf]
          · have ix := Try.idx1 (.int .i64 (M.nxt i 0)) (.int .i64 (M.nxt i 1)) (.int .i64 (M.nxt i 2)) (.int .i64 (M.nxt i 3)) (.int .i64 (M.nxt i 4)) (.int .i64 (M.nxt i 5)) (.int .i64 (M.nxt i 6)) (.int .i64 (M.nxt i 7))
            by_cases hq : M.nxt i 1 = cm
            · have hb : ((M.nxt i 1 : Int) == (cm : Int)) = true := by simp; omega
              have HQ : Hid (M.nxt i 1 = cm) := hq
              clear hq
              go_wp2_with fail
              go_round
              case rel =>
                refine ⟨1 + 1, by omega, by go_num, ?_⟩
                have := HQ.out
                rw [HCS2.out, show max cm (M.nxt i 1 + 1) = cm + 1 by omega]; go_num
              case measure => simp [intOf]
            · have hb : ((M.nxt i 1 : Int) == (cm : Int)) = false := by simp; omega
              have HQ : Hid (M.nxt i 1 < cm) := by unfold Hid; omega
              clear hq
              go_wp2_with fail
              go_round
              case rel =>
                refine ⟨1 + 1, by omega, by go_num, ?_⟩
                have := HQ.out
                rw [HCS2.out, show max cm (M.nxt i 1 + 1) = cm by omega]
              case measure => simp [intOf]
          · have ix := Try.idx2 (.int .i64 (M.nxt i 0)) (.int .i64 (M.nxt i 1)) (.int .i64 (M.nxt i 2)) (.int .i64 (M.nxt i 3)) (.int .i64 (M.nxt i 4)) (.int .i64 (M.nxt i 5)) (.int .i64 (M.nxt i 6)) (.int .i64 (M.nxt i 7))
            by_cases hq : M.nxt i 2 = cm
            · have hb : ((M.nxt i 2 : Int) == (cm : Int)) = true := by simp; omega
              have HQ : Hid (M.nxt i 2 = cm) := hq
              clear hq
              go_wp2_with fail
              go_round
              case rel =>
                refine ⟨2 + 1, by omega, by go_num, ?_⟩
                have := HQ.out
                rw [HCS2.out, show max cm (M.nxt i 2 + 1) = cm + 1 by omega]; go_num
              case measure => simp [intOf]
            · have hb : ((M.nxt i 2 : Int) == (cm : Int)) = false := by simp; omega
              have HQ : Hid (M.nxt i 2 < cm) := by unfold Hid; omega
              clear hq
              go_wp2_with fail
              go_round
              case rel =>
                refine ⟨2 + 1, by omega, by go_num, ?_⟩
                have := HQ.out
                rw [HCS2.out, show max cm (M.nxt i 2 + 1) = cm by omega]
              case measure => simp [intOf]
          · have ix := Try.idx3 (.int .i64 (M.nxt i 0)) (.int .i64 (M.nxt i 1)) (.int .i64 (M.nxt i 2)) (.int .i64 (M.nxt i 3)) (.int .i64 (M.nxt i 4)) (.int .i64 (M.nxt i 5)) (.int .i64 (M.nxt i 6)) (.int .i64 (M.nxt i 7))
            by_cases hq : M.nxt i 3 = cm
            · have hb : ((M.nxt i 3 : Int) == (cm : Int)) = true := by simp; omega
              have HQ : Hid (M.nxt i 3 = cm) := hq
              clear hq
              go_wp2_with fail
              go_round
              case rel =>
                refine ⟨3 + 1, by omega, by go_num, ?_⟩
                have := HQ.out
                rw [HCS2.out, show max cm (M.nxt i 3 + 1) = cm + 1 by omega]; go_num
              case measure => simp [intOf]
            · have hb : ((M.nxt i 3 : Int) == (cm : Int)) = false := by simp; omega
              have HQ : Hid (M.nxt i 3 < cm) := by unfold Hid; omega
              clear hq
              go_wp2_with fail
              go_round
              case rel =>
                refine ⟨3 + 1, by omega, by go_num, ?_⟩
                have := HQ.out
                rw [HCS2.out, show max cm (M.nxt i 3 + 1) = cm by omega]
              case measure => simp [intOf]
          · have ix := Try.idx4 (.int .i64 (M.nxt i 0)) (.int .i64 (M.nxt i 1)) (.int .i64 (M.nxt i 2)) (.int .i64 (M.nxt i 3)) (.int .i64 (M.nxt i 4)) (.int .i64 (M.nxt i 5)) (.int .i64 (M.nxt i 6)) (.int .i64 (M.nxt i 7))
            by_cases hq : M.nxt i 4 = cm
            · have hb : ((M.nxt i 4 : Int) == (cm : Int)) = true := by simp; omega
              have HQ : Hid (M.nxt i 4 = cm) := hq
              clear hq
              go_wp2_with fail
              go_round
              case rel =>
                refine ⟨4 + 1, by omega, by go_num, ?_⟩
                have := HQ.out
                rw [HCS2.out, show max cm (M.nxt i 4 + 1) = cm + 1 by omega]; go_num
              case measure => simp [intOf]
            · have hb : ((M.nxt i 4 : Int) == (cm : Int)) = false := by simp; omega
              have HQ : Hid (M.nxt i 4 < cm) := by unfold Hid; omega
              clear hq
              go_wp2_with fail
              go_round
              case rel =>
                refine ⟨4 + 1, by omega, by go_num, ?_⟩
                have := HQ.out
                rw [HCS2.out, show max cm (M.nxt i 4 + 1) = cm by omega]
              case measure => simp [intOf]
          · have ix := Try.idx5 (.int .i64 (M.nxt i 0)) (.int .i64 (M.nxt i 1)) (.int .i64 (M.nxt i 2)) (.int .i64 (M.nxt i 3)) (.int .i64 (M.nxt i 4)) (.int .i64 (M.nxt i 5)) (.int .i64 (M.nxt i 6)) (.int .i64 (M.nxt i 7))
            by_cases hq : M.nxt i 5 = cm
            · have hb : ((M.nxt i 5 : Int) == (cm : Int)) = true := by simp; omega
              have HQ : Hid (M.nxt i 5 = cm) := hq
              clear hq
              go_wp2_with fail
              go_round
              case rel =>
                refine ⟨5 + 1, by omega, by go_num, ?_⟩
                have := HQ.out
                rw [HCS2.out, show max cm (M.nxt i 5 + 1) = cm + 1 by omega]; go_num
              case measure => simp [intOf]
            · have hb : ((M.nxt i 5 : Int) == (cm : Int)) = false := by simp; omega
              have HQ : Hid (M.nxt i 5 < cm) := by unfold Hid; omega
              clear hq
              go_wp2_with fail
              go_round
              case rel =>
                refine ⟨5 + 1, by omega, by go_num, ?_⟩
                have := HQ.out
                rw [HCS2.out, show max cm (M.nxt i 5 + 1) = cm by omega]
              case measure => simp [intOf]
          · have ix := Try.idx6 (.int .i64 (M.nxt i 0)) (.int .i64 (M.nxt i 1)) (.int .i64 (M.nxt i 2)) (.int .i64 (M.nxt i 3)) (.int .i64 (M.nxt i 4)) (.int .i64 (M.nxt i 5)) (.int .i64 (M.nxt i 6)) (.int .i64 (M.nxt i 7))
            by_cases hq : M.nxt i 6 = cm
            · have hb : ((M.nxt i 6 : Int) == (cm : Int)) = true := by simp; omega
              have HQ : Hid (M.nxt i 6 = cm) := hq
              clear hq
              go_wp2_with fail
              go_round
              case rel =>
                refine ⟨6 + 1, by omega, by go_num, ?_⟩
                have := HQ.out
                rw [HCS2.out, show max cm (M.nxt i 6 + 1) = cm + 1 by omega]; go_num
              case measure => simp [intOf]
            · have hb : ((M.nxt i 6 : Int) == (cm : Int)) = false := by simp; omega
              have HQ : Hid (M.nxt i 6 < cm) := by unfold Hid; omega
              clear hq
              go_wp2_with fail
              go_round
              case rel =>
                refine ⟨6 + 1, by omega, by go_num, ?_⟩
                have := HQ.out
                rw [HCS2.out, show max cm (M.nxt i 6 + 1) = cm by omega]
              case measure => simp [intOf]
          · have ix := Try.idx7 (.int .i64 (M.nxt i 0)) (.int .i64 (M.nxt i 1)) (.int .i64 (M.nxt i 2)) (.int .i64 (M.nxt i 3)) (.int .i64 (M.nxt i 4)) (.int .i64 (M.nxt i 5)) (.int .i64 (M.nxt i 6)) (.int .i64 (M.nxt i 7))
            by_cases hq : M.nxt i 7 = cm
            · have hb : ((M.nxt i 7 : Int) == (cm : Int)) = true := by simp; omega
              have HQ : Hid (M.nxt i 7 = cm) := hq
              clear hq
              go_wp2_with fail
              go_round
              case rel =>
                refine ⟨7 + 1, by omega, by go_num, ?_⟩
                have := HQ.out
                rw [HCS2.out, show max cm (M.nxt i 7 + 1) = cm + 1 by omega]; go_num
              case measure => simp [intOf]
            · have hb : ((M.nxt i 7 : Int) == (cm : Int)) = false := by simp; omega
              have HQ : Hid (M.nxt i 7 < cm) := by unfold Hid; omega
              clear hq
              go_wp2_with fail
              go_round
              case rel =>
                refine ⟨7 + 1, by omega, by go_num, ?_⟩
                have := HQ.out
                rw [HCS2.out, show max cm (M.nxt i 7 + 1) = cm by omega]
              case measure => simp [intOf]
        · have he : c = 8 := by omega
          subst he
          rw [show 8 * i + 8 = 8 * (i + 1) by omega] at hc2 hcp2 ⊢
          obtain ⟨cm, HC⟩ : ∃ x, Hid (come M.nxt (8 * (i + 1)) = x) := ⟨_, rfl⟩
          rw [HC.out] at hc2 hcp2 ⊢
          go_wp2_with fail
          go_round
          case rel => exact ⟨i + 1, by omega, by go_num, by rw [HC.out]⟩
          case measure => simp [intOf]; omega
    · have he : i = M.n := by omega
      subst he
      rw [hN.all]
      have hb : ((M.n : Int) == (M.n : Int)) = true := by simp
      clear hcl hc1 hcp hcel
      go_wp2_with fail
      go_ret
      exact ⟨rfl, rfl⟩
end Go.Proofs.Ytpngikmcjkjdaab
