import Derived.Deep.AppendLies
import Derived.Deep.RegionLaw
import Derived.Test.YtpngikmcjkjdaaaGreatDoorG1
import Derived.Test.YtpngikmcjkjdaaaGreatDoorG2
set_option linter.unusedVariables false
set_option linter.unusedSimpArgs false
namespace Go.Proofs.YtpngikmcjkjdaaaGreatDoor
open Go.RowKit
set_option linter.unusedVariables false
def LeastPost (L : List Nat → Bool) (budget bound : Nat) (w : World) (e : Ending) (w' : World) : Prop :=
  Below w.heap.size w w' ∧
    ((∃ (R : Tab) (V : Lay), IsLeast R L ∧ R.n ≤ budget ∧ e = .returned (.tuple #[.agg #[.slice (some ⟨V.ba, V.oa, none⟩) R.n V.ca, .slice (some ⟨V.bn, V.on, none⟩) R.n V.cn], .int .i64 0]) ∧ TabAt w' V R ∧ V.From w.heap.size R.n ∧ Fresh w' V R.n) ∨
     (e = .returned (.tuple #[.agg #[.slice none 0 0, .slice none 0 0], .int .i64 5]) ∧ budget < bound ∧ ∀ R, IsLeast R L → budget < R.n))
theorem apart_ne {M : Tab} {i j : Nat} (h : Apart M i j) : i ≠ j := by
  intro e; subst e; obtain ⟨x, _, hd⟩ := h; exact hd rfl
theorem heads_le {M : Tab} (hs : List Nat) (hlt : ∀ c, c < hs.length → hs.getD c 0 < M.n) (hap : ∀ c d, c < d → d < hs.length → Apart M (hs.getD c 0) (hs.getD d 0)) : hs.length ≤ M.n := by
  refine nodup_bound M.n hs ?_ ?_
  · rw [List.Nodup, List.pairwise_iff_getElem]
    intro i j hi hj hij e
    have := apart_ne (hap i j hij hj)
    rw [List.getD_eq_getElem?_getD, List.getElem?_eq_getElem hi, List.getD_eq_getElem?_getD, List.getElem?_eq_getElem hj] at this
    exact this e
  · intro x hx
    obtain ⟨c, hc, rfl⟩ := mem_getD hx
    exact hlt c hc
theorem res_alloc {w : World} {b : Nat} {x y u v : Value} {t : TypeId} (h : w.heap[b]? = some (.cells #[x, y] t (0, 0))) (o : Obj) :
    (((w.setCell ⟨b, 0, none⟩ u).setCell ⟨b, 1, none⟩ v).alloc o).cell? ⟨b, 0, none⟩ = some u ∧ (((w.setCell ⟨b, 0, none⟩ u).setCell ⟨b, 1, none⟩ v).alloc o).cell? ⟨b, 1, none⟩ = some v :=
  ⟨(cell_two (heap_at_old (two_set1 (two_set0 h)))).1, (cell_two (heap_at_old (two_set1 (two_set0 h)))).2.1⟩
theorem below_res {w w5 : World} {b : Nat} (h : Below w.heap.size w w5) (hb : w.heap.size ≤ b) (u v : Value) : Below w.heap.size w ((w5.setCell ⟨b, 0, none⟩ u).setCell ⟨b, 1, none⟩ v) :=
  (h.setCell (p := ⟨b, 0, none⟩) hb _).setCell (p := ⟨b, 1, none⟩) hb _
theorem TabAt.res {w : World} {V : Lay} {M : Tab} (h : TabAt w V M) {N b : Nat} (hV : V.From N M.n) (hb : b < N) (u v : Value) : TabAt ((w.setCell ⟨b, 0, none⟩ u).setCell ⟨b, 1, none⟩ v) V M :=
  (h.set hV (p := ⟨b, 0, none⟩) hb u).set hV (p := ⟨b, 1, none⟩) hb v
theorem Lay.From.mono {V : Lay} {N N' n : Nat} (h : V.From N n) (hN : N' ≤ N) : V.From N' n := ⟨by have := h.a; omega, by have := h.b; omega, fun i hi => by have := h.r i hi; omega⟩
theorem Tryz.infoE : (Tryz.prog.info? 174).map (fun i => (i.zero, i.size, i.bytes)) = some (some (.agg #[.int .i64 0, .int .i64 0, .int .i64 0, .int .i64 0, .int .i64 0, .int .i64 0, .int .i64 0, .int .i64 0]), 8, 64) := by kernel_rfl
theorem cells_new (w : World) (l : Array Value) (t : TypeId) : ∀ j u, l.toList[j]? = some u → (w.alloc (.cells l t)).cell? ((⟨w.heap.size, 0, none⟩ : Addr).add j) = some u := by
  intro j u hu
  have hadd : (⟨w.heap.size, 0, none⟩ : Addr).add j = ⟨w.heap.size, j, none⟩ := by unfold Addr.add; split <;> simp_all
  rw [hadd, cell_of_row (w.alloc (.cells l t)) w.heap.size j l t (0, 0) (heap_at_new rfl)]
  simpa using hu
structure Touch (S : Nat → Prop) (w w' : World) : Prop where
  os : w'.os = w.os
  tape : w'.tape = w.tape
  output : w'.output = w.output
  size : w.heap.size ≤ w'.heap.size
  block : ∀ k, k < w.heap.size → ¬ S k → w'.heap[k]? = w.heap[k]?
theorem Touch.below {S : Nat → Prop} {W w w' : World} {B : Nat} (h : Touch S w w') (hb : Below B W w) (hB : B ≤ w.heap.size) (hS : ∀ k, S k → B ≤ k) : Below B W w' :=
  ⟨h.os.trans hb.os, h.tape.trans hb.tape, h.output.trans hb.output, Nat.le_trans hb.size h.size, fun k hk => (h.block k (by omega) (fun hs => by have := hS k hs; omega)).trans (hb.block k hk)⟩
theorem Touch.own {S : Nat → Prop} {w w' : World} {base e s n : Nat} {v : Value} {x : List Value} (h : Touch S w w') (ho : w.ownsRow base e s v n x) (hS : ∀ g, v.ownBlock = some g → ¬ S g) : w'.ownsRow base e s v n x := by
  refine ⟨ho.1, ?_⟩
  rcases ho.2 with ⟨rfl, hn⟩ | ⟨g, cap, cur, rfl, hb, hg, r⟩
  · exact .inl ⟨rfl, hn⟩
  · exact .inr ⟨g, cap, cur, rfl, hb, by rw [h.block g (heap_lt hg) (hS g rfl)]; exact hg, r⟩
theorem Touch.row {S : Nat → Prop} {w w' : World} {b t n : Nat} {f : Nat → Value} (h : Touch S w w') (hr : w.rowIs b t n f) (hS : ¬ S b) : w'.rowIs b t n f := hr.of_block (h.block b hr.lt hS)
theorem Touch.heap {S : Nat → Prop} {w w' : World} {b : Nat} {o : Obj} (h : Touch S w w') (hr : w.heap[b]? = some o) (hS : ¬ S b) : w'.heap[b]? = some o := by rw [h.block b (heap_lt hr) hS]; exact hr
theorem Touch.alloc {S : Nat → Prop} {w w' : World} (h : Touch S w w') (o : Obj) : Touch S w (w'.alloc o) :=
  ⟨h.os, h.tape, h.output, Nat.le_trans h.size (by simp), fun k hk hs => (Below.heap_alloc w' o k (Nat.lt_of_lt_of_le hk h.size)).trans (h.block k hk hs)⟩
theorem Touch.set {S : Nat → Prop} {w w' : World} (h : Touch S w w') (a : Addr) (u : Value) (ha : S a.block ∨ w.heap.size ≤ a.block) : Touch S w (w'.setCell a u) :=
  ⟨by rw [← h.os]; rfl, by rw [← h.tape]; rfl, by rw [← h.output]; rfl, Nat.le_trans h.size (by simp), fun k hk hs =>
    (Below.heap_setCell w' a u k (fun e => ha.elim (fun ha => hs (by rw [e]; exact ha)) (fun ha => by omega))).trans (h.block k hk hs)⟩
theorem Touch.grown {S : Nat → Prop} {w w' w2 : World} (h : Touch S w w') {row : Option Nat} (hg : w'.grownBy w2 row) (hr : ∀ k, row = some k → S k ∨ w.heap.size ≤ k) : Touch S w w2 :=
  ⟨hg.os.trans h.os, hg.tape.trans h.tape, hg.output.trans h.output, Nat.le_trans h.size hg.size, fun k hk hs =>
    (hg.block k (Nat.lt_of_lt_of_le hk h.size) (fun e => (hr k e.symm).elim (fun h1 => hs h1) (fun h1 => by omega))).trans (h.block k hk hs)⟩
theorem Touch.refl (S : Nat → Prop) (w : World) : Touch S w w := ⟨rfl, rfl, rfl, Nat.le_refl _, fun _ _ _ => rfl⟩
section
variable {w w2 : World}
theorem own_apart {base e e' s s' n n' : Nat} {v v' : Value} {x x' : List Value} (h : w.ownsRow base e s v n x) (h' : w.ownsRow base e' s' v' n' x') (hne : e ≠ e') (g : Nat) (hg : v.ownBlock = some g) (hg' : v'.ownBlock = some g) : False := by
  rcases h.2 with ⟨rfl, _⟩ | ⟨a, cap, cur, rfl, _, h1, _⟩
  · simp [Value.ownBlock] at hg
  · rcases h'.2 with ⟨rfl, _⟩ | ⟨a', cap', cur', rfl, _, h2, _⟩
    · simp [Value.ownBlock] at hg'
    · simp only [Value.ownBlock, Option.some.injEq] at hg hg'
      subst hg; subst hg'
      rw [h1] at h2
      simp only [Option.some.injEq, Obj.cells.injEq] at h2
      exact hne h2.2.1
theorem rowIs_grown {b t n : Nat} {f : Nat → Value} (h : w.rowIs b t n f) {row : Option Nat} (hg : w.grownBy w2 row) (hne : row ≠ some b) : w2.rowIs b t n f :=
  h.of_block (hg.block b h.lt (fun e => hne e.symm))
theorem ownsRow_set {base e s n : Nat} {v : Value} {x : List Value} (h : w.ownsRow base e s v n x) (a : Addr) (u : Value) (hne : ∀ g, v.ownBlock = some g → g ≠ a.block) : (w.setCell a u).ownsRow base e s v n x :=
  ownsRow_setCell_other h (fun e => hne _ e rfl) u
end
def row8 (r : Nat → Nat) : Array Value := #[.int .i64 ((r 0 : Nat) : Int), .int .i64 ((r 1 : Nat) : Int), .int .i64 ((r 2 : Nat) : Int), .int .i64 ((r 3 : Nat) : Int), .int .i64 ((r 4 : Nat) : Int), .int .i64 ((r 5 : Nat) : Int), .int .i64 ((r 6 : Nat) : Int), .int .i64 ((r 7 : Nat) : Int)]
theorem Tryz.idx0 (x0 x1 x2 x3 x4 x5 x6 x7 : Value) (w : World) : (Instr.index 174 (.agg #[x0, x1, x2, x3, x4, x5, x6, x7]) (.int .i64 0)).run Tryz.prog w = .ok x0 w := by kernel_rfl
theorem Tryz.idx1 (x0 x1 x2 x3 x4 x5 x6 x7 : Value) (w : World) : (Instr.index 174 (.agg #[x0, x1, x2, x3, x4, x5, x6, x7]) (.int .i64 1)).run Tryz.prog w = .ok x1 w := by kernel_rfl
theorem Tryz.idx2 (x0 x1 x2 x3 x4 x5 x6 x7 : Value) (w : World) : (Instr.index 174 (.agg #[x0, x1, x2, x3, x4, x5, x6, x7]) (.int .i64 2)).run Tryz.prog w = .ok x2 w := by kernel_rfl
theorem Tryz.idx3 (x0 x1 x2 x3 x4 x5 x6 x7 : Value) (w : World) : (Instr.index 174 (.agg #[x0, x1, x2, x3, x4, x5, x6, x7]) (.int .i64 3)).run Tryz.prog w = .ok x3 w := by kernel_rfl
theorem Tryz.idx4 (x0 x1 x2 x3 x4 x5 x6 x7 : Value) (w : World) : (Instr.index 174 (.agg #[x0, x1, x2, x3, x4, x5, x6, x7]) (.int .i64 4)).run Tryz.prog w = .ok x4 w := by kernel_rfl
theorem Tryz.idx5 (x0 x1 x2 x3 x4 x5 x6 x7 : Value) (w : World) : (Instr.index 174 (.agg #[x0, x1, x2, x3, x4, x5, x6, x7]) (.int .i64 5)).run Tryz.prog w = .ok x5 w := by kernel_rfl
theorem Tryz.idx6 (x0 x1 x2 x3 x4 x5 x6 x7 : Value) (w : World) : (Instr.index 174 (.agg #[x0, x1, x2, x3, x4, x5, x6, x7]) (.int .i64 6)).run Tryz.prog w = .ok x6 w := by kernel_rfl
theorem Tryz.idx7 (x0 x1 x2 x3 x4 x5 x6 x7 : Value) (w : World) : (Instr.index 174 (.agg #[x0, x1, x2, x3, x4, x5, x6, x7]) (.int .i64 7)).run Tryz.prog w = .ok x7 w := by kernel_rfl
set_option maxRecDepth 20000 in
set_option maxHeartbeats 2000000 in
theorem inOrder_ok (gn cn : Nat) (M : Tab) (w : World) (hcel : ∀ i c, i < M.n → c < 8 → w.cell? ⟨gn, i * 8 + c, none⟩ = some (.int .i64 (M.nxt i c))) (hN : Numbered M) (hn : M.n ≤ 100000000) :
    Calls Tryz.prog 139 #[.slice (some ⟨gn, 0, none⟩) M.n cn] w fun e w' => e = .returned (.bool true) ∧ w' = w := by
  have hcl := come_le hN
  go_enter Tryz.func139, Tryz.ntmps139
  go_wp2_with fail
  go_loop [3, 4] (fun cm i' => ∃ i : Nat, i ≤ M.n ∧ i' = .int .i64 i ∧ cm = .int .i64 (come M.nxt (8 * i))) (fun _ i' => M.n - (intOf i').toNat)
  case atStart => exact ⟨0, by omega, rfl, rfl⟩
  case round =>
    obtain ⟨i, hi, rfl, rfl⟩ := hrel
    have hc1 := hcl (8 * i) (by omega)
    have hcp := come_pos M.nxt (8 * i)
    by_cases hlt : i < M.n
    · have hrow := hN.row i hlt
      obtain ⟨cm0, HC0⟩ : ∃ x, Hid (come M.nxt (8 * i) = x) := ⟨_, rfl⟩
      rw [HC0.out] at hc1 hcp hrow ⊢
      have z0 := hcel i 0 hlt (by omega)
      have z1 := hcel i 1 hlt (by omega)
      have z2 := hcel i 2 hlt (by omega)
      have z3 := hcel i 3 hlt (by omega)
      have z4 := hcel i 4 hlt (by omega)
      have z5 := hcel i 5 hlt (by omega)
      have z6 := hcel i 6 hlt (by omega)
      have z7 := hcel i 7 hlt (by omega)
      rw [Nat.add_zero] at z0
      have HCL : Hid (∀ p, p ≤ 8 * M.n → come M.nxt p ≤ M.n) := hcl
      clear hcl hcel
      go_wp2_with fail
      clear z0 z1 z2 z3 z4 z5 z6 z7
      go_loop [3, 6, 20] (fun cm _ c' => ∃ c : Nat, c ≤ 8 ∧ c' = .int .i64 c ∧ cm = .int .i64 (come M.nxt (8 * i + c))) (fun _ _ c' => 8 - (intOf c').toNat)
      case atStart => exact ⟨0, by omega, rfl, by simp only [Nat.add_zero]; rw [HC0.out]⟩
      case round =>
        obtain ⟨c, hc, rfl, rfl⟩ := hrel
        have hc2 := HCL.out (8 * i + c) (by omega)
        have hcp2 := come_pos M.nxt (8 * i + c)
        by_cases hl8 : c < 8
        · have hnx := hN.nx i c hlt hl8
          have hst := hN.step (8 * i + c) (by omega)
          have HCS : Hid (come M.nxt (8 * i + (c + 1)) = max (come M.nxt (8 * i + c)) (M.nxt i c + 1)) := by
            unfold Hid; rw [← Nat.add_assoc]; simp only [come]
            rw [show (8 * i + c) / 8 = i by omega, show (8 * i + c) % 8 = c by omega]
          rw [show (8 * i + c) / 8 = i by omega, show (8 * i + c) % 8 = c by omega] at hst
          obtain ⟨cm, HC⟩ : ∃ x, Hid (come M.nxt (8 * i + c) = x) := ⟨_, rfl⟩
          have HCS2 : Hid (come M.nxt (8 * i + (c + 1)) = max cm (M.nxt i c + 1)) := by unfold Hid; rw [← HC.out]; exact HCS.out
          rw [HC.out] at hc2 hcp2 hst ⊢
          rcases (show c = 0 ∨ c = 1 ∨ c = 2 ∨ c = 3 ∨ c = 4 ∨ c = 5 ∨ c = 6 ∨ c = 7 by omega) with rfl | rfl | rfl | rfl | rfl | rfl | rfl | rfl
          · have ix := Tryz.idx0 (.int .i64 (M.nxt i 0)) (.int .i64 (M.nxt i 1)) (.int .i64 (M.nxt i 2)) (.int .i64 (M.nxt i 3)) (.int .i64 (M.nxt i 4)) (.int .i64 (M.nxt i 5)) (.int .i64 (M.nxt i 6)) (.int .i64 (M.nxt i 7))
            by_cases hq : M.nxt i 0 = cm
            · have hb : ((M.nxt i 0 : Int) == (cm : Int)) = true := by simp; omega
              have HQ : Hid (M.nxt i 0 = cm) := hq
              clear hq
              go_wp2_with fail
              go_round
              case rel =>
                refine ⟨0 + 1, by omega, by go_num, ?_⟩
                have := HQ.out
                rw [HCS2.out, show max cm (M.nxt i 0 + 1) = cm + 1 by omega]; go_num
              case measure => simp [intOf]
            · have hb : ((M.nxt i 0 : Int) == (cm : Int)) = false := by simp; omega
              have HQ : Hid (M.nxt i 0 < cm) := by unfold Hid; omega
              clear hq
              go_wp2_with fail
              go_round
              case rel =>
                refine ⟨0 + 1, by omega, by go_num, ?_⟩
                have := HQ.out
                rw [HCS2.out, show max cm (M.nxt i 0 + 1) = cm by omega]
              case measure => simp [intOf]
          · have ix := Tryz.idx1 (.int .i64 (M.nxt i 0)) (.int .i64 (M.nxt i 1)) (.int .i64 (M.nxt i 2)) (.int .i64 (M.nxt i 3)) (.int .i64 (M.nxt i 4)) (.int .i64 (M.nxt i 5)) (.int .i64 (M.nxt i 6)) (.int .i64 (M.nxt i 7))
            by_cases hq : M.nxt i 1 = cm
            · have hb : ((M.nxt i 1 : Int) == (cm : Int)) = true := by simp; omega
              have HQ : Hid (M.nxt i 1 = cm) := hq
              clear hq
              go_wp2_with fail
              go_round
              case rel =>
                refine ⟨1 + 1, by omega, by go_num, ?_⟩
                have := HQ.out
                rw [HCS2.out, show max cm (M.nxt i 1 + 1) = cm + 1 by omega]; go_num
              case measure => simp [intOf]
            · have hb : ((M.nxt i 1 : Int) == (cm : Int)) = false := by simp; omega
              have HQ : Hid (M.nxt i 1 < cm) := by unfold Hid; omega
              clear hq
              go_wp2_with fail
              go_round
              case rel =>
                refine ⟨1 + 1, by omega, by go_num, ?_⟩
                have := HQ.out
                rw [HCS2.out, show max cm (M.nxt i 1 + 1) = cm by omega]
              case measure => simp [intOf]
          · have ix := Tryz.idx2 (.int .i64 (M.nxt i 0)) (.int .i64 (M.nxt i 1)) (.int .i64 (M.nxt i 2)) (.int .i64 (M.nxt i 3)) (.int .i64 (M.nxt i 4)) (.int .i64 (M.nxt i 5)) (.int .i64 (M.nxt i 6)) (.int .i64 (M.nxt i 7))
            by_cases hq : M.nxt i 2 = cm
            · have hb : ((M.nxt i 2 : Int) == (cm : Int)) = true := by simp; omega
              have HQ : Hid (M.nxt i 2 = cm) := hq
              clear hq
              go_wp2_with fail
              go_round
              case rel =>
                refine ⟨2 + 1, by omega, by go_num, ?_⟩
                have := HQ.out
                rw [HCS2.out, show max cm (M.nxt i 2 + 1) = cm + 1 by omega]; go_num
              case measure => simp [intOf]
            · have hb : ((M.nxt i 2 : Int) == (cm : Int)) = false := by simp; omega
              have HQ : Hid (M.nxt i 2 < cm) := by unfold Hid; omega
              clear hq
              go_wp2_with fail
              go_round
              case rel =>
                refine ⟨2 + 1, by omega, by go_num, ?_⟩
                have := HQ.out
                rw [HCS2.out, show max cm (M.nxt i 2 + 1) = cm by omega]
              case measure => simp [intOf]
          · have ix := Tryz.idx3 (.int .i64 (M.nxt i 0)) (.int .i64 (M.nxt i 1)) (.int .i64 (M.nxt i 2)) (.int .i64 (M.nxt i 3)) (.int .i64 (M.nxt i 4)) (.int .i64 (M.nxt i 5)) (.int .i64 (M.nxt i 6)) (.int .i64 (M.nxt i 7))
            by_cases hq : M.nxt i 3 = cm
            · have hb : ((M.nxt i 3 : Int) == (cm : Int)) = true := by simp; omega
              have HQ : Hid (M.nxt i 3 = cm) := hq
              clear hq
              go_wp2_with fail
              go_round
              case rel =>
                refine ⟨3 + 1, by omega, by go_num, ?_⟩
                have := HQ.out
                rw [HCS2.out, show max cm (M.nxt i 3 + 1) = cm + 1 by omega]; go_num
              case measure => simp [intOf]
            · have hb : ((M.nxt i 3 : Int) == (cm : Int)) = false := by simp; omega
              have HQ : Hid (M.nxt i 3 < cm) := by unfold Hid; omega
              clear hq
              go_wp2_with fail
              go_round
              case rel =>
                refine ⟨3 + 1, by omega, by go_num, ?_⟩
                have := HQ.out
                rw [HCS2.out, show max cm (M.nxt i 3 + 1) = cm by omega]
              case measure => simp [intOf]
          · have ix := Tryz.idx4 (.int .i64 (M.nxt i 0)) (.int .i64 (M.nxt i 1)) (.int .i64 (M.nxt i 2)) (.int .i64 (M.nxt i 3)) (.int .i64 (M.nxt i 4)) (.int .i64 (M.nxt i 5)) (.int .i64 (M.nxt i 6)) (.int .i64 (M.nxt i 7))
            by_cases hq : M.nxt i 4 = cm
            · have hb : ((M.nxt i 4 : Int) == (cm : Int)) = true := by simp; omega
              have HQ : Hid (M.nxt i 4 = cm) := hq
              clear hq
              go_wp2_with fail
              go_round
              case rel =>
                refine ⟨4 + 1, by omega, by go_num, ?_⟩
                have := HQ.out
                rw [HCS2.out, show max cm (M.nxt i 4 + 1) = cm + 1 by omega]; go_num
              case measure => simp [intOf]
            · have hb : ((M.nxt i 4 : Int) == (cm : Int)) = false := by simp; omega
              have HQ : Hid (M.nxt i 4 < cm) := by unfold Hid; omega
              clear hq
              go_wp2_with fail
              go_round
              case rel =>
                refine ⟨4 + 1, by omega, by go_num, ?_⟩
                have := HQ.out
                rw [HCS2.out, show max cm (M.nxt i 4 + 1) = cm by omega]
              case measure => simp [intOf]
          · have ix := Tryz.idx5 (.int .i64 (M.nxt i 0)) (.int .i64 (M.nxt i 1)) (.int .i64 (M.nxt i 2)) (.int .i64 (M.nxt i 3)) (.int .i64 (M.nxt i 4)) (.int .i64 (M.nxt i 5)) (.int .i64 (M.nxt i 6)) (.int .i64 (M.nxt i 7))
            by_cases hq : M.nxt i 5 = cm
            · have hb : ((M.nxt i 5 : Int) == (cm : Int)) = true := by simp; omega
              have HQ : Hid (M.nxt i 5 = cm) := hq
              clear hq
              go_wp2_with fail
              go_round
              case rel =>
                refine ⟨5 + 1, by omega, by go_num, ?_⟩
                have := HQ.out
                rw [HCS2.out, show max cm (M.nxt i 5 + 1) = cm + 1 by omega]; go_num
              case measure => simp [intOf]
            · have hb : ((M.nxt i 5 : Int) == (cm : Int)) = false := by simp; omega
              have HQ : Hid (M.nxt i 5 < cm) := by unfold Hid; omega
              clear hq
              go_wp2_with fail
              go_round
              case rel =>
                refine ⟨5 + 1, by omega, by go_num, ?_⟩
                have := HQ.out
                rw [HCS2.out, show max cm (M.nxt i 5 + 1) = cm by omega]
              case measure => simp [intOf]
          · have ix := Tryz.idx6 (.int .i64 (M.nxt i 0)) (.int .i64 (M.nxt i 1)) (.int .i64 (M.nxt i 2)) (.int .i64 (M.nxt i 3)) (.int .i64 (M.nxt i 4)) (.int .i64 (M.nxt i 5)) (.int .i64 (M.nxt i 6)) (.int .i64 (M.nxt i 7))
            by_cases hq : M.nxt i 6 = cm
            · have hb : ((M.nxt i 6 : Int) == (cm : Int)) = true := by simp; omega
              have HQ : Hid (M.nxt i 6 = cm) := hq
              clear hq
              go_wp2_with fail
              go_round
              case rel =>
                refine ⟨6 + 1, by omega, by go_num, ?_⟩
                have := HQ.out
                rw [HCS2.out, show max cm (M.nxt i 6 + 1) = cm + 1 by omega]; go_num
              case measure => simp [intOf]
            · have hb : ((M.nxt i 6 : Int) == (cm : Int)) = false := by simp; omega
              have HQ : Hid (M.nxt i 6 < cm) := by unfold Hid; omega
              clear hq
              go_wp2_with fail
              go_round
              case rel =>
                refine ⟨6 + 1, by omega, by go_num, ?_⟩
                have := HQ.out
                rw [HCS2.out, show max cm (M.nxt i 6 + 1) = cm by omega]
              case measure => simp [intOf]
          · have ix := Tryz.idx7 (.int .i64 (M.nxt i 0)) (.int .i64 (M.nxt i 1)) (.int .i64 (M.nxt i 2)) (.int .i64 (M.nxt i 3)) (.int .i64 (M.nxt i 4)) (.int .i64 (M.nxt i 5)) (.int .i64 (M.nxt i 6)) (.int .i64 (M.nxt i 7))
            by_cases hq : M.nxt i 7 = cm
            · have hb : ((M.nxt i 7 : Int) == (cm : Int)) = true := by simp; omega
              have HQ : Hid (M.nxt i 7 = cm) := hq
              clear hq
              go_wp2_with fail
              go_round
              case rel =>
                refine ⟨7 + 1, by omega, by go_num, ?_⟩
                have := HQ.out
                rw [HCS2.out, show max cm (M.nxt i 7 + 1) = cm + 1 by omega]; go_num
              case measure => simp [intOf]
            · have hb : ((M.nxt i 7 : Int) == (cm : Int)) = false := by simp; omega
              have HQ : Hid (M.nxt i 7 < cm) := by unfold Hid; omega
              clear hq
              go_wp2_with fail
              go_round
              case rel =>
                refine ⟨7 + 1, by omega, by go_num, ?_⟩
                have := HQ.out
                rw [HCS2.out, show max cm (M.nxt i 7 + 1) = cm by omega]
              case measure => simp [intOf]
        · have he : c = 8 := by omega
          subst he
          rw [show 8 * i + 8 = 8 * (i + 1) by omega] at hc2 hcp2 ⊢
          obtain ⟨cm, HC⟩ : ∃ x, Hid (come M.nxt (8 * (i + 1)) = x) := ⟨_, rfl⟩
          rw [HC.out] at hc2 hcp2 ⊢
          go_wp2_with fail
          go_round
          case rel => exact ⟨i + 1, by omega, by go_num, by rw [HC.out]⟩
          case measure => simp [intOf]; omega
    · have he : i = M.n := by omega
      subst he
      rw [hN.all]
      have hb : ((M.n : Int) == (M.n : Int)) = true := by simp
      clear hcl hc1 hcp hcel
      go_wp2_with fail
      go_ret
      exact ⟨rfl, rfl⟩
end Go.Proofs.YtpngikmcjkjdaaaGreatDoor
namespace Go.Proofs.YtpngikmcjkjdaaaGreatDoor
open Go.RowKit
set_option linter.unusedVariables false
set_option maxRecDepth 20000 in
set_option maxHeartbeats 2000000 in
theorem add_ok (gw base : Nat) (va vn : Value) (k : Nat) (xa xn : List Value) (a : Bool) (r : Nat → Nat) (w : World) (hb : w.heap[gw]? = some (.cells #[va, vn] 169 (0, 0)))
    (h0 : w.ownsRow base 4 1 va k xa) (h1 : w.ownsRow base 174 8 vn k xn) (hlt : gw < base) (hbase : base ≤ w.heap.size) (hk : k ≤ 100000000) :
    Calls Tryz.prog 138 #[.pointer (some ⟨gw, 0, none⟩), .bool a, .agg (row8 r)] w fun e w' => e = .returned (.tuple #[]) ∧
      ∃ va' vn', w'.heap[gw]? = some (.cells #[va', vn'] 169 (0, 0)) ∧ w'.ownsRow base 4 1 va' (k + 1) (xa ++ [.bool a]) ∧ w'.ownsRow base 174 8 vn' (k + 1) (xn ++ (row8 r).toList) ∧
        Touch (fun b => b = gw ∨ va.ownBlock = some b ∨ vn.ownBlock = some b) w w' ∧ (∀ g, va'.ownBlock = some g → va.ownBlock = some g ∨ w.heap.size ≤ g) ∧ (∀ g, vn'.ownBlock = some g → vn.ownBlock = some g ∨ w.heap.size ≤ g) := by
  obtain ⟨i4, hi4, hz4, hz41, hz42⟩ := info_parts Tryz.info4
  obtain ⟨i8, hi8, hz8, hz81, hz82⟩ := info_parts Tryz.infoE
  have hgs := heap_lt hb
  obtain ⟨W, hW⟩ : ∃ W, W = w.alloc (.cells (row8 r) 174) := ⟨_, rfl⟩
  have hWs : w.heap.size + 1 ≤ W.heap.size := by rw [hW]; simp
  have bw : W.heap[gw]? = some (.cells #[va, vn] 169 (0, 0)) := by rw [hW]; exact heap_at_old hb
  have br : W.heap[w.heap.size]? = some (.cells (row8 r) 174 (0, 0)) := by rw [hW]; exact heap_at_new rfl
  have T0 : Touch (fun b => b = gw ∨ va.ownBlock = some b ∨ vn.ownBlock = some b) w W := by rw [hW]; exact (Touch.refl _ _).alloc _
  have o0 : W.ownsRow base 4 1 va k xa := by rw [hW]; exact h0.alloc _
  have o1 : W.ownsRow base 174 8 vn k xn := by rw [hW]; exact h1.alloc _
  obtain ⟨y0, y1, z0, z1⟩ := cell_two bw
  have HX : Hid (W = w.alloc (.cells (row8 r) 174)) := hW
  unfold row8 at hW
  unfold row8
  go_enter Tryz.func138, Tryz.ntmps138
  go_upto_region 1 with fail
  rw [← hW]
  have l0 := fun g e => h0.lt g e
  have l1 := fun g e => h1.lt g e
  clear hW HX hb h0 h1
  have hna := o0.alloc (.cells #[.bool a] 4)
  have hbo : base ≤ (W.alloc (.cells #[.bool a] 4)).heap.size := by simp; omega
  have HG : ∀ g cap w2, w2.ownsRow base 4 1 (.slice (some ⟨g, 0, none⟩) (k + 1) cap) (k + 1) (xa ++ [.bool a]) → (W.alloc (.cells #[.bool a] 4)).grownBy w2 va.ownBlock → (va.ownBlock = some g ∨ g = (W.alloc (.cells #[.bool a] 4)).heap.size) →
      w2.heap[gw]? = some (.cells #[va, vn] 169 (0, 0)) ∧ Hid (Touch (fun b => b = gw ∨ va.ownBlock = some b ∨ vn.ownBlock = some b) w w2 ∧ w2.ownsRow base 174 8 vn k xn ∧ w2.heap[w.heap.size]? = some (.cells (row8 r) 174 (0, 0)) ∧ W.heap.size ≤ w2.heap.size) := by
    intro g cap w2 ho hg hf
    have hsz := hg.size
    simp at hsz
    refine ⟨?_, (T0.alloc _).grown hg (fun k e => .inl (.inr (.inl e))), ?_, ?_, by omega⟩
    · rw [hg.block gw (by simp; omega) (fun e => by have := (l0 gw e.symm).1; omega)]; exact heap_at_old bw
    · refine (o1.alloc _).kept hg ?_
      cases hv : vn.ownBlock with
      | none => exact .inl rfl
      | some x => exact .inr (fun e => own_apart o1 o0 (by decide) x hv e.symm)
    · rw [hg.block w.heap.size (by simp; omega) (fun e => by have h2 := (l0 _ e.symm).2; omega)]; exact heap_at_old br
  clear bw br T0 o0 o1
  have hss : gw < W.heap.size := by omega
  go_upto_region 2 with (at_builtin; refine wpList_append_fresh _ rfl _ _ 38 rfl base 4 i4 (.bool false) 1 1 Tryz.underlying38 hi4 hz4 hz41 hz42 rfl (by decide) _ k xa rfl hna ⟨W.heap.size, 0, none⟩ 1 1 [.bool a] rfl rfl (cell_one_new _ _ _) (by intro u hu; simp at hu; subst hu; rfl) (by decide) (by unfold maxLen; omega) (by omega) hbo ?_; intro g cap w2 hown hgr hfr; obtain ⟨f0, F⟩ := HG g cap w2 hown hgr hfr; obtain ⟨f3, f4, f5, f6⟩ := cell_two f0)
  obtain ⟨F1, F2, F3, F4⟩ := F.out
  obtain ⟨W5, hW5⟩ : ∃ W5, W5 = w2.setCell ⟨gw, 0, none⟩ (.slice (some ⟨g, 0, none⟩) (k + 1) cap) := ⟨_, rfl⟩
  have hW5s : w2.heap.size ≤ W5.heap.size := by rw [hW5]; simp
  have b5 : W5.heap[gw]? = some (.cells #[.slice (some ⟨g, 0, none⟩) (k + 1) cap, vn] 169 (0, 0)) := by rw [hW5]; exact two_set0 f0
  have r5 : W5.heap[w.heap.size]? = some (.cells (row8 r) 174 (0, 0)) := by rw [hW5]; exact heap_set_other F3 (by simp; omega)
  have T5 : Touch (fun b => b = gw ∨ va.ownBlock = some b ∨ vn.ownBlock = some b) w W5 := by rw [hW5]; exact F1.set _ _ (.inl (.inl rfl))
  have o05 : W5.ownsRow base 4 1 (.slice (some ⟨g, 0, none⟩) (k + 1) cap) (k + 1) (xa ++ [.bool a]) := by rw [hW5]; exact ownsRow_setCell_below hown (by simp; omega) _
  have o15 : W5.ownsRow base 174 8 vn k xn := by rw [hW5]; exact ownsRow_setCell_below F2 (by simp; omega) _
  have fa : va.ownBlock = some g ∨ w.heap.size ≤ g := by
    rcases hfr with h | h
    · exact .inl h
    · right; rw [h]; simp; omega
  rw [← hW5]
  clear hW5 f0 f3 f4 f5 f6 F F1 F2 F3 HG hgr hown hfr hna hbo y0 y1 z0 z1
  obtain ⟨y0, y1, z0, z1⟩ := cell_two b5
  have c0 := cell_of_row W5 w.heap.size 0 (row8 r) 174 (0, 0) r5
  have c1 := cell_of_row W5 w.heap.size 1 (row8 r) 174 (0, 0) r5
  have c2 := cell_of_row W5 w.heap.size 2 (row8 r) 174 (0, 0) r5
  have c3 := cell_of_row W5 w.heap.size 3 (row8 r) 174 (0, 0) r5
  have c4 := cell_of_row W5 w.heap.size 4 (row8 r) 174 (0, 0) r5
  have c5 := cell_of_row W5 w.heap.size 5 (row8 r) 174 (0, 0) r5
  have c6 := cell_of_row W5 w.heap.size 6 (row8 r) 174 (0, 0) r5
  have c7 := cell_of_row W5 w.heap.size 7 (row8 r) 174 (0, 0) r5
  simp [row8] at c0 c1 c2 c3 c4 c5 c6 c7
  have hna := o15.alloc (.cells (row8 r) 174)
  have hbo : base ≤ (W5.alloc (.cells (row8 r) 174)).heap.size := by simp; omega
  have hss5 : gw < W5.heap.size := by omega
  have HG : ∀ g' cap' w6, w6.ownsRow base 174 8 (.slice (some ⟨g', 0, none⟩) (k + 1) cap') (k + 1) (xn ++ (row8 r).toList) → (W5.alloc (.cells (row8 r) 174)).grownBy w6 vn.ownBlock → (vn.ownBlock = some g' ∨ g' = (W5.alloc (.cells (row8 r) 174)).heap.size) →
      w6.heap[gw]? = some (.cells #[.slice (some ⟨g, 0, none⟩) (k + 1) cap, vn] 169 (0, 0)) ∧ Hid (Touch (fun b => b = gw ∨ va.ownBlock = some b ∨ vn.ownBlock = some b) w w6 ∧ w6.ownsRow base 4 1 (.slice (some ⟨g, 0, none⟩) (k + 1) cap) (k + 1) (xa ++ [.bool a])) := by
    intro g' cap' w6 ho hg hf
    have hsz := hg.size
    simp at hsz
    refine ⟨?_, (T5.alloc _).grown hg (fun k e => .inl (.inr (.inr e))), ?_⟩
    · rw [hg.block gw (by simp; omega) (fun e => by have := (l1 gw e.symm).1; omega)]; exact heap_at_old b5
    · refine (o05.alloc _).kept hg ?_
      by_cases hv : vn.ownBlock = some g
      · exact absurd (own_apart o15 o05 (by decide) g hv rfl) id
      · exact .inr (fun e => hv e.symm)
  clear b5 r5 T5 o05 o15
  unfold row8 at hna hbo HG
  have HGG : Hid _ := HG
  clear HG
  go_region_law
    ((refine step_append_lies _ (by rfl) _ _ _ (by rfl) base 174 i8 (.agg #[.int .i64 0, .int .i64 0, .int .i64 0, .int .i64 0, .int .i64 0, .int .i64 0, .int .i64 0, .int .i64 0]) 8 64 Tryz.underlying167 hi8 hz8 hz81 hz82 rfl (by decide) vn k xn (by rfl) hna ⟨W5.heap.size, 0, none⟩ 1 1 [.int .i64 ((r 0 : Nat) : Int), .int .i64 ((r 1 : Nat) : Int), .int .i64 ((r 2 : Nat) : Int), .int .i64 ((r 3 : Nat) : Int), .int .i64 ((r 4 : Nat) : Int), .int .i64 ((r 5 : Nat) : Int), .int .i64 ((r 6 : Nat) : Int), .int .i64 ((r 7 : Nat) : Int)] (by rfl) (by rfl) (cells_new _ _ _) (by intro u hu; simp at hu; rcases hu with rfl | rfl | rfl | rfl | rfl | rfl | rfl | rfl <;> rfl) (by decide) (by unfold maxLen; omega) (by omega) (by simp; omega) (W5.heap.size + 1) (by simp) ?_; intro g' cap' w6 hown' hgr' hfr' hlt2; obtain ⟨f0, F⟩ := HGG.out g' cap' w6 hown' ⟨hgr'.os, hgr'.tape, hgr'.output, hgr'.size, hgr'.block⟩ (by simpa using hfr'); obtain ⟨f3, f4, f5, f6⟩ := cell_two f0; have HFR : Hid _ := hfr'; clear hfr'))
  all_goals go_wp2_with fail
  all_goals
    obtain ⟨F1, F2⟩ := F.out
    go_end0
    refine ⟨rfl, .slice (some ⟨g, 0, none⟩) (k + 1) cap, .slice (some ⟨g', 0, none⟩) (k + 1) cap', two_set1 f0, ownsRow_setCell_below F2 (by simp; omega) _, ownsRow_setCell_below hown' (by simp; omega) _, F1.set _ _ (.inl (.inl rfl)), ?_, ?_⟩
    · intro x hx
      simp only [Value.ownBlock, Option.some.injEq] at hx; subst hx; exact fa
    · intro x hx
      simp only [Value.ownBlock, Option.some.injEq] at hx; subst hx
      rcases HFR.out with h | h
      · exact .inl h
      · right; rw [h]; omega
end Go.Proofs.YtpngikmcjkjdaaaGreatDoor
namespace Go.Proofs.YtpngikmcjkjdaaaGreatDoor
open Go.RowKit
set_option linter.unusedVariables false
def zs (n : Nat) : Array Value := Array.replicate n (.int .i64 0)
def pcells (ps : List Nat) : List Value := ps.flatMap fun q => [.int .i64 ((q / 40 : Nat) : Int), .int .i64 ((q % 40 : Nat) : Int)]
def metv (ps : List Nat) (q : Nat) : Nat := if q ∈ ps then ps.idxOf q + 1 else 0
theorem metv_new (ps : List Nat) (q r : Nat) (hq : q ∉ ps) : metv (ps ++ [q]) r = if r = q then ps.length + 1 else metv ps r := by
  unfold metv
  by_cases e : r = q
  · subst e; simp [List.idxOf_append, hq]
  · by_cases h : r ∈ ps
    · simp [h, e, List.idxOf_append]
    · simp [h, e]
structure PairMem (W : World) (B : Nat) (w : World) (ps : List Nat) (vp va vn : Value) (k k' : Nat) (xa xn : List Value) : Prop where
  blw : Below (B + 1 + 1) W w
  blk : w.heap[B + 1 + 1]? = some (.cells #[va, vn] 169 (0, 0))
  met : w.rowIs (B + 1 + 1 + 1) 202 1600 (fun q => .int .i64 (metv ps q : Nat))
  own0 : w.ownsRow (B + 1 + 1 + 1 + 1) 4 1 va k xa
  own1 : w.ownsRow (B + 1 + 1 + 1 + 1) 174 8 vn k' xn
  own2 : w.ownsRow (B + 1 + 1 + 1 + 1) 204 2 vp ps.length (pcells ps)
structure RoundMem (W : World) (B H : Nat) (w : World) (ps : List Nat) (vp va vn : Value) (k : Nat) (xa xn : List Value) (i j : Nat) (r : Nat → Nat) : Prop where
  mem : PairMem W B w ps vp va vn k k xa xn
  here : w.heap[H]? = some (.cells #[.int .i64 (i : Int), .int .i64 (j : Int)] 204 (0, 0))
  rw : w.rowIs (H + 1) 174 8 (fun c => .int .i64 (r c : Nat))
  lo : B + 1 + 1 + 1 + 1 ≤ H
  dp : ∀ g, vp.ownBlock = some g → g ≠ H ∧ g ≠ H + 1
  da : ∀ g, va.ownBlock = some g → g < H
  dn : ∀ g, vn.ownBlock = some g → g < H
section
variable {W : World} {B H : Nat} {w w2 : World} {ps : List Nat} {vp va vn : Value} {k : Nat} {xa xn : List Value} {i j : Nat} {r : Nat → Nat}
theorem PairMem.alloc {k' : Nat} (h : PairMem W B w ps vp va vn k k' xa xn) (o : Obj) : PairMem W B (w.alloc o) ps vp va vn k k' xa xn where
  blw := h.blw.alloc (by have := heap_lt h.blk; omega) o
  blk := heap_at_old h.blk
  met := h.met.alloc o
  own0 := h.own0.alloc o
  own1 := h.own1.alloc o
  own2 := h.own2.alloc o
theorem RoundMem.alloc (h : RoundMem W B H w ps vp va vn k xa xn i j r) (o : Obj) : RoundMem W B H (w.alloc o) ps vp va vn k xa xn i j r :=
  ⟨h.mem.alloc o, heap_at_old h.here, h.rw.alloc o, h.lo, h.dp, h.da, h.dn⟩
theorem RoundMem.grown (h : RoundMem W B H w ps vp va vn k xa xn i j r) {q g cap : Nat} (hown : w2.ownsRow (B + 1 + 1 + 1 + 1) 204 2 (.slice (some ⟨g, 0, none⟩) (ps.length + 1) cap) (ps.length + 1) (pcells (ps ++ [q])))
    (hg : w.grownBy w2 vp.ownBlock) (hf : vp.ownBlock = some g ∨ g = w.heap.size) :
    Below (B + 1 + 1) W w2 ∧ w2.heap[B + 1 + 1]? = some (.cells #[va, vn] 169 (0, 0)) ∧ w2.rowIs (B + 1 + 1 + 1) 202 1600 (fun q => .int .i64 (metv ps q : Nat)) ∧
      w2.ownsRow (B + 1 + 1 + 1 + 1) 4 1 va k xa ∧ w2.ownsRow (B + 1 + 1 + 1 + 1) 174 8 vn k xn ∧
      w2.heap[H]? = some (.cells #[.int .i64 (i : Int), .int .i64 (j : Int)] 204 (0, 0)) ∧ w2.rowIs (H + 1) 174 8 (fun c => .int .i64 (r c : Nat)) ∧ (g ≠ H ∧ g ≠ H + 1) := by
  have hm := h.mem
  have hsz := heap_lt hm.blk
  have hlt := fun x e => hm.own2.lt x e
  have hH := heap_lt h.here
  have hH1 := h.rw.lt
  refine ⟨hm.blw.grown hg (by omega) (fun x e => by have := (hlt x e).1; omega), ?_, rowIs_grown hm.met hg (fun e => by have := (hlt _ e).1; omega), ?_, ?_, ?_, rowIs_grown h.rw hg (fun e => (h.dp _ e).2 rfl), ?_⟩
  · rw [hg.block _ hsz (fun e => by have := (hlt _ e.symm).1; omega)]; exact hm.blk
  · refine hm.own0.kept hg ?_
    cases hv : va.ownBlock with
    | none => exact .inl rfl
    | some x => exact .inr (fun e => own_apart hm.own0 hm.own2 (by decide) x hv e.symm)
  · refine hm.own1.kept hg ?_
    cases hv : vn.ownBlock with
    | none => exact .inl rfl
    | some x => exact .inr (fun e => own_apart hm.own1 hm.own2 (by decide) x hv e.symm)
  · rw [hg.block _ hH (fun e => (h.dp _ e.symm).1 rfl)]; exact h.here
  · rcases hf with hf | rfl
    · exact h.dp g hf
    · omega
theorem RoundMem.new (h : RoundMem W B H w ps vp va vn k xa xn i j r) {q g cap c : Nat} (hq : q ∉ ps) (hown : w2.ownsRow (B + 1 + 1 + 1 + 1) 204 2 (.slice (some ⟨g, 0, none⟩) (ps.length + 1) cap) (ps.length + 1) (pcells (ps ++ [q])))
    (hg : w.grownBy w2 vp.ownBlock) (hf : vp.ownBlock = some g ∨ g = w.heap.size) :
    RoundMem W B H ((w2.setCell ⟨B + 1 + 1 + 1, q, none⟩ (.int .i64 ((ps.length : Int) + 1))).setCell ⟨H + 1, c, none⟩ (.int .i64 (ps.length : Int))) (ps ++ [q]) (.slice (some ⟨g, 0, none⟩) (ps.length + 1) cap) va vn k xa xn i j (fun x => if x = c then ps.length else r x) := by
  obtain ⟨g1, g2, g3, g4, g5, g6, g7, g8⟩ := h.grown hown hg hf
  have hlo := h.lo
  refine ⟨⟨(g1.setCell (p := ⟨B + 1 + 1 + 1, q, none⟩) (by simp) _).setCell (p := ⟨H + 1, c, none⟩) (by simp; omega) _, heap_set_other (heap_set_other g2 (by simp)) (by simp; omega), ?_, ?_, ?_, ?_⟩,
    heap_set_other (heap_set_other g6 (by simp; omega)) (by simp), ?_, h.lo, ?_, h.da, h.dn⟩
  · refine ((g3.set q _).setOther (by simp; omega) _).congr (fun x _ => ?_)
    rw [metv_new ps q x hq]
    by_cases e : x = q
    · simp [e]
    · simp [e]
  · exact ownsRow_set (ownsRow_set g4 _ _ (fun x hx => by have := (g4.lt x hx).1; simp; omega)) _ _ (fun x hx => by have := h.da x hx; simp; omega)
  · exact ownsRow_set (ownsRow_set g5 _ _ (fun x hx => by have := (g5.lt x hx).1; simp; omega)) _ _ (fun x hx => by have := h.dn x hx; simp; omega)
  · simp only [List.length_append, List.length_singleton]
    exact ownsRow_set (ownsRow_set hown _ _ (fun x hx => by have := (hown.lt x hx).1; simp; omega)) _ _ (fun x hx => by simp only [Value.ownBlock, Option.some.injEq] at hx; subst hx; simpa using g8.2)
  · refine ((g7.setOther (a := ⟨B + 1 + 1 + 1, q, none⟩) (by simp; omega) _).set c _).congr (fun x _ => ?_)
    by_cases e : x = c
    · simp [e]
    · simp [e]
  · intro x hx
    simp only [Value.ownBlock, Option.some.injEq] at hx; subst hx; exact g8
theorem RoundMem.old (h : RoundMem W B H w ps vp va vn k xa xn i j r) {c v : Nat} :
    RoundMem W B H (w.setCell ⟨H + 1, c, none⟩ (.int .i64 (v : Int))) ps vp va vn k xa xn i j (fun x => if x = c then v else r x) := by
  have hm := h.mem
  have hlo := h.lo
  refine ⟨⟨hm.blw.setCell (p := ⟨H + 1, c, none⟩) (by simp; omega) _, heap_set_other hm.blk (by simp; omega), hm.met.setOther (by simp; omega) _, ?_, ?_, ?_⟩, heap_set_other h.here (by simp), ?_, h.lo, h.dp, h.da, h.dn⟩
  · exact ownsRow_set hm.own0 _ _ (fun x hx => by have := h.da x hx; simp; omega)
  · exact ownsRow_set hm.own1 _ _ (fun x hx => by have := h.dn x hx; simp; omega)
  · exact ownsRow_set hm.own2 _ _ (fun x hx => by have := (h.dp x hx).2; simpa using this)
  · refine (h.rw.set c _).congr (fun x _ => ?_)
    by_cases e : x = c
    · simp [e]
    · simp [e]
theorem RoundMem.drewN (h : RoundMem W B H w ps vp va vn k xa xn i j r) (q : Nat) : RoundMem W B H (w.drewN q) ps vp va vn k xa xn i j r :=
  ⟨⟨below_drewN h.mem.blw q, h.mem.blk, h.mem.met, h.mem.own0, h.mem.own1, h.mem.own2⟩, h.here, h.rw, h.lo, h.dp, h.da, h.dn⟩
theorem RoundMem.add (h : RoundMem W B H w ps vp va vn k xa xn i j r) {va' vn' : Value} {ya yn : List Value} (hb : w2.heap[B + 1 + 1]? = some (.cells #[va', vn'] 169 (0, 0)))
    (h0 : w2.ownsRow (B + 1 + 1 + 1 + 1) 4 1 va' (k + 1) ya) (h1 : w2.ownsRow (B + 1 + 1 + 1 + 1) 174 8 vn' (k + 1) yn)
    (ht : Touch (fun b => b = B + 1 + 1 ∨ va.ownBlock = some b ∨ vn.ownBlock = some b) w w2) : PairMem W B w2 ps vp va' vn' (k + 1) (k + 1) ya yn := by
  have hm := h.mem
  have hsz := heap_lt hm.blk
  refine ⟨ht.below hm.blw (by omega) ?_, hb, ht.row hm.met ?_, h0, h1, ht.own hm.own2 ?_⟩
  · rintro x (rfl | e | e)
    · omega
    · have := (hm.own0.lt _ e).1; omega
    · have := (hm.own1.lt _ e).1; omega
  · rintro (e | e | e)
    · omega
    · have := (hm.own0.lt _ e).1; omega
    · have := (hm.own1.lt _ e).1; omega
  · rintro g hg (rfl | e | e)
    · have := (hm.own2.lt _ hg).1; omega
    · exact own_apart hm.own2 hm.own0 (by decide) g hg e
    · exact own_apart hm.own2 hm.own1 (by decide) g hg e
theorem RoundMem.rcongr (h : RoundMem W B H w ps vp va vn k xa xn i j r) {r' : Nat → Nat} (e : ∀ x, x < 8 → r x = r' x) : RoundMem W B H w ps vp va vn k xa xn i j r' :=
  ⟨h.mem, h.here, h.rw.congr (fun x hx => by rw [e x hx]), h.lo, h.dp, h.da, h.dn⟩
end
end Go.Proofs.YtpngikmcjkjdaaaGreatDoor
namespace Go.Proofs.YtpngikmcjkjdaaaGreatDoor
set_option linter.unusedVariables false
inductive Pat where
  | none : Pat
  | one (S : Nat → Bool) : Pat
  | chain (a b : Pat) : Pat
  | alt (a b : Pat) : Pat
  | rep (a : Pat) (least copies : Nat) (endless : Bool) : Pat
inductive Star (l : List Nat → Prop) : List Nat → Prop where
  | nil : Star l []
  | cons {u v : List Nat} (hu : l u) (hv : Star l v) : Star l (u ++ v)
def Cat (l l' : List Nat → Prop) (x : List Nat) : Prop := ∃ u v, x = u ++ v ∧ l u ∧ l' v
def Copy (l : List Nat → Prop) (least i : Nat) (endless : Bool) (x : List Nat) : Prop :=
  if i < least then l x else if endless then Star l x else x = [] ∨ l x
def Copies (l : List Nat → Prop) (least : Nat) (endless : Bool) : Nat → List Nat → Prop
  | 0 => fun x => x = []
  | k + 1 => Cat (Copies l least endless k) (Copy l least k endless)
def Pat.lang : Pat → List Nat → Prop
  | .none => fun x => x = []
  | .one S => fun x => ∃ c, x = [c] ∧ S c = true
  | .chain a b => Cat a.lang b.lang
  | .alt a b => fun x => a.lang x ∨ b.lang x
  | .rep a least copies endless => Copies a.lang least endless copies
inductive Way (B rd : Nat → Nat → Prop) (L : Nat → Prop) : Nat → List Nat → Prop where
  | last {p c : Nat} (hr : rd p c) (hl : L p) : Way B rd L p [c]
  | step {p q c : Nat} {x : List Nat} (hr : rd p c) (hb : B p q) (hx : Way B rd L q x) : Way B rd L p (c :: x)
theorem Way.ne_nil {B rd : Nat → Nat → Prop} {L : Nat → Prop} {p : Nat} {x : List Nat} (h : Way B rd L p x) : x ≠ [] := by cases h <;> simp
theorem Way.mono {B B' rd : Nat → Nat → Prop} {L L' : Nat → Prop} (hB : ∀ p q, B p q → B' p q) (hL : ∀ p, L p → L' p) {p : Nat} {x : List Nat} (h : Way B rd L p x) : Way B' rd L' p x := by
  induction h with
  | last hr hl => exact .last hr (hL _ hl)
  | step hr hb _ ih => exact .step hr (hB _ _ hb) ih
structure Str (rd : Nat → Nat → Prop) where
  lo : Nat
  hi : Nat
  e : Prop
  F : Nat → Prop
  L : Nat → Prop
  B : Nat → Nat → Prop
structure Str.In {rd : Nat → Nat → Prop} (s : Str rd) : Prop where
  le : s.lo ≤ s.hi
  fi : ∀ p, s.F p → s.lo ≤ p ∧ p < s.hi
  la : ∀ p, s.L p → s.lo ≤ p ∧ p < s.hi
  be : ∀ p q, s.B p q → (s.lo ≤ p ∧ p < s.hi) ∧ (s.lo ≤ q ∧ q < s.hi)
def Str.acc {rd : Nat → Nat → Prop} (s : Str rd) (x : List Nat) : Prop := (x = [] ∧ s.e) ∨ ∃ p, s.F p ∧ Way s.B rd s.L p x
def Str.chain {rd : Nat → Nat → Prop} (s t : Str rd) : Str rd where
  lo := s.lo
  hi := t.hi
  e := s.e ∧ t.e
  F p := s.F p ∨ (s.e ∧ t.F p)
  L p := t.L p ∨ (t.e ∧ s.L p)
  B p q := s.B p q ∨ t.B p q ∨ (s.L p ∧ t.F q)
def Str.alt {rd : Nat → Nat → Prop} (s t : Str rd) : Str rd where
  lo := s.lo
  hi := t.hi
  e := s.e ∨ t.e
  F p := s.F p ∨ t.F p
  L p := s.L p ∨ t.L p
  B p q := s.B p q ∨ t.B p q
def Str.free {rd : Nat → Nat → Prop} (s : Str rd) (endless : Prop) : Str rd where
  lo := s.lo
  hi := s.hi
  e := True
  F := s.F
  L := s.L
  B p q := s.B p q ∨ (endless ∧ s.L p ∧ s.F q)
section
variable {rd : Nat → Nat → Prop} {s t : Str rd}
theorem Str.In.chain (hs : s.In) (ht : t.In) (h : s.hi = t.lo) : (s.chain t).In := by
  have h1 := hs.le
  have h2 := ht.le
  refine ⟨by show s.lo ≤ t.hi; omega, ?_, ?_, ?_⟩
  · rintro p (hp | ⟨_, hp⟩)
    · have := hs.fi p hp; exact ⟨this.1, by show p < t.hi; omega⟩
    · have := ht.fi p hp; exact ⟨by show s.lo ≤ p; omega, this.2⟩
  · rintro p (hp | ⟨_, hp⟩)
    · have := ht.la p hp; exact ⟨by show s.lo ≤ p; omega, this.2⟩
    · have := hs.la p hp; exact ⟨this.1, by show p < t.hi; omega⟩
  · rintro p q (hp | hp | ⟨hp, hq⟩)
    · have := hs.be p q hp; exact ⟨⟨this.1.1, by show p < t.hi; omega⟩, this.2.1, by show q < t.hi; omega⟩
    · have := ht.be p q hp; exact ⟨⟨by show s.lo ≤ p; omega, this.1.2⟩, by show s.lo ≤ q; omega, this.2.2⟩
    · have h3 := hs.la p hp; have h4 := ht.fi q hq
      exact ⟨⟨h3.1, by show p < t.hi; omega⟩, by show s.lo ≤ q; omega, h4.2⟩
theorem Str.In.alt (hs : s.In) (ht : t.In) (h : s.hi = t.lo) : (s.alt t).In := by
  have h1 := hs.le
  have h2 := ht.le
  refine ⟨by show s.lo ≤ t.hi; omega, ?_, ?_, ?_⟩
  · rintro p (hp | hp)
    · have := hs.fi p hp; exact ⟨this.1, by show p < t.hi; omega⟩
    · have := ht.fi p hp; exact ⟨by show s.lo ≤ p; omega, this.2⟩
  · rintro p (hp | hp)
    · have := hs.la p hp; exact ⟨this.1, by show p < t.hi; omega⟩
    · have := ht.la p hp; exact ⟨by show s.lo ≤ p; omega, this.2⟩
  · rintro p q (hp | hp)
    · have := hs.be p q hp; exact ⟨⟨this.1.1, by show p < t.hi; omega⟩, this.2.1, by show q < t.hi; omega⟩
    · have := ht.be p q hp; exact ⟨⟨by show s.lo ≤ p; omega, this.1.2⟩, by show s.lo ≤ q; omega, this.2.2⟩
theorem Str.In.free (hs : s.In) (en : Prop) : (s.free en).In :=
  ⟨hs.le, hs.fi, hs.la, fun p q h => by
    rcases h with h | ⟨_, h1, h2⟩
    · exact hs.be p q h
    · exact ⟨hs.la p h1, hs.fi q h2⟩⟩
theorem chain_right (hs : s.In) (ht : t.In) (h : s.hi = t.lo) {p : Nat} {x : List Nat} (hp : t.lo ≤ p) : Way (s.chain t).B rd (s.chain t).L p x ↔ Way t.B rd t.L p x := by
  constructor
  · intro hw
    induction hw with
    | last hr hl =>
      rcases hl with hl | ⟨_, hl⟩
      · exact .last hr hl
      · have := hs.la _ hl; omega
    | step hr hb _ ih =>
      rcases hb with hb | hb | ⟨hb, _⟩
      · have := (hs.be _ _ hb).1; omega
      · exact .step hr hb (ih (ht.be _ _ hb).2.1)
      · have := hs.la _ hb; omega
  · exact Way.mono (fun p q h => .inr (.inl h)) (fun p h => .inl h)
theorem chain_left (hs : s.In) (ht : t.In) (h : s.hi = t.lo) {p : Nat} {x : List Nat} (hp : p < s.hi) (hw : Way (s.chain t).B rd (s.chain t).L p x) : ∃ u v, x = u ++ v ∧ Way s.B rd s.L p u ∧ t.acc v := by
  induction hw with
  | last hr hl =>
    rcases hl with hl | ⟨he, hl⟩
    · have := ht.la _ hl; omega
    · exact ⟨_, [], by simp, .last hr hl, .inl ⟨rfl, he⟩⟩
  | step hr hb hx ih =>
    rcases hb with hb | hb | ⟨hb, hq⟩
    · obtain ⟨u, v, rfl, h1, h2⟩ := ih (hs.be _ _ hb).2.2
      exact ⟨_ :: u, v, rfl, .step hr hb h1, h2⟩
    · have := (ht.be _ _ hb).1; omega
    · exact ⟨[_], _, rfl, .last hr hb, .inr ⟨_, hq, (chain_right hs ht h (ht.fi _ hq).1).1 hx⟩⟩
theorem chain_join (hs : s.In) (ht : t.In) (h : s.hi = t.lo) {p : Nat} {u v : List Nat} (hu : Way s.B rd s.L p u) (hv : t.acc v) : Way (s.chain t).B rd (s.chain t).L p (u ++ v) := by
  rcases hv with ⟨rfl, he⟩ | ⟨q, hq, hv⟩
  · rw [List.append_nil]
    exact hu.mono (fun p q h => .inl h) (fun p hl => .inr ⟨he, hl⟩)
  · have hv' := (chain_right hs ht h (ht.fi _ hq).1).2 hv
    induction hu with
    | last hr hl => exact .step hr (.inr (.inr ⟨hl, hq⟩)) hv'
    | step hr hb _ ih => exact .step hr (.inl hb) ih
theorem chain_acc (hs : s.In) (ht : t.In) (h : s.hi = t.lo) (x : List Nat) : (s.chain t).acc x ↔ Cat s.acc t.acc x := by
  constructor
  · rintro (⟨rfl, h1, h2⟩ | ⟨p, hp | ⟨he, hp⟩, hw⟩)
    · exact ⟨[], [], rfl, .inl ⟨rfl, h1⟩, .inl ⟨rfl, h2⟩⟩
    · obtain ⟨u, v, rfl, h1, h2⟩ := chain_left hs ht h (hs.fi p hp).2 hw
      exact ⟨u, v, rfl, .inr ⟨p, hp, h1⟩, h2⟩
    · exact ⟨[], x, rfl, .inl ⟨rfl, he⟩, .inr ⟨p, hp, (chain_right hs ht h (ht.fi p hp).1).1 hw⟩⟩
  · rintro ⟨u, v, rfl, ⟨rfl, he⟩ | ⟨p, hp, hu⟩, hv⟩
    · rcases hv with ⟨rfl, he'⟩ | ⟨q, hq, hv⟩
      · exact .inl ⟨rfl, he, he'⟩
      · exact .inr ⟨q, .inr ⟨he, hq⟩, by simpa using (chain_right hs ht h (ht.fi q hq).1).2 hv⟩
    · exact .inr ⟨p, .inl hp, chain_join hs ht h hu hv⟩
theorem alt_acc (hs : s.In) (ht : t.In) (h : s.hi = t.lo) (x : List Nat) : (s.alt t).acc x ↔ s.acc x ∨ t.acc x := by
  have left : ∀ p x, p < s.hi → Way (s.alt t).B rd (s.alt t).L p x → Way s.B rd s.L p x := by
    intro p x hp hw
    induction hw with
    | last hr hl =>
      rcases hl with hl | hl
      · exact .last hr hl
      · have := ht.la _ hl; omega
    | step hr hb _ ih =>
      rcases hb with hb | hb
      · exact .step hr hb (ih (hs.be _ _ hb).2.2)
      · have := (ht.be _ _ hb).1; omega
  have right : ∀ p x, t.lo ≤ p → Way (s.alt t).B rd (s.alt t).L p x → Way t.B rd t.L p x := by
    intro p x hp hw
    induction hw with
    | last hr hl =>
      rcases hl with hl | hl
      · have := hs.la _ hl; omega
      · exact .last hr hl
    | step hr hb _ ih =>
      rcases hb with hb | hb
      · have := (hs.be _ _ hb).1; omega
      · exact .step hr hb (ih (ht.be _ _ hb).2.1)
  constructor
  · rintro (⟨rfl, h1 | h1⟩ | ⟨p, hp | hp, hw⟩)
    · exact .inl (.inl ⟨rfl, h1⟩)
    · exact .inr (.inl ⟨rfl, h1⟩)
    · exact .inl (.inr ⟨p, hp, left p x (hs.fi p hp).2 hw⟩)
    · exact .inr (.inr ⟨p, hp, right p x (ht.fi p hp).1 hw⟩)
  · rintro ((⟨rfl, h1⟩ | ⟨p, hp, hw⟩) | (⟨rfl, h1⟩ | ⟨p, hp, hw⟩))
    · exact .inl ⟨rfl, .inl h1⟩
    · exact .inr ⟨p, .inl hp, hw.mono (fun _ _ h => .inl h) (fun _ h => .inl h)⟩
    · exact .inl ⟨rfl, .inr h1⟩
    · exact .inr ⟨p, .inr hp, hw.mono (fun _ _ h => .inr h) (fun _ h => .inr h)⟩
theorem free_split {en : Prop} {p : Nat} {x : List Nat} (hw : Way (s.free en).B rd (s.free en).L p x) : ∃ u v, x = u ++ v ∧ Way s.B rd s.L p u ∧ (v = [] ∨ (en ∧ ∃ q, s.F q ∧ Way (s.free en).B rd (s.free en).L q v)) := by
  induction hw with
  | last hr hl => exact ⟨_, [], by simp, .last hr hl, .inl rfl⟩
  | step hr hb hx ih =>
    rcases hb with hb | ⟨he, hl, hq⟩
    · obtain ⟨u, v, rfl, h1, h2⟩ := ih
      exact ⟨_ :: u, v, rfl, .step hr hb h1, h2⟩
    · exact ⟨[_], _, rfl, .last hr hl, .inr ⟨he, _, hq, hx⟩⟩
theorem free_join {en : Prop} (he : en) {p q : Nat} {u v : List Nat} (hu : Way s.B rd s.L p u) (hq : s.F q) (hv : Way (s.free en).B rd (s.free en).L q v) : Way (s.free en).B rd (s.free en).L p (u ++ v) := by
  induction hu with
  | last hr hl => exact .step hr (.inr ⟨he, hl, hq⟩) hv
  | step hr hb _ ih => exact .step hr (.inl hb) ih
theorem opt_acc (x : List Nat) : (s.free False).acc x ↔ x = [] ∨ s.acc x := by
  constructor
  · rintro (⟨rfl, _⟩ | ⟨p, hp, hw⟩)
    · exact .inl rfl
    · obtain ⟨u, v, rfl, h1, rfl | ⟨h2, _⟩⟩ := free_split hw
      · rw [List.append_nil]; exact .inr (.inr ⟨p, hp, h1⟩)
      · exact h2.elim
  · rintro (rfl | ⟨rfl, _⟩ | ⟨p, hp, hw⟩)
    · exact .inl ⟨rfl, trivial⟩
    · exact .inl ⟨rfl, trivial⟩
    · exact .inr ⟨p, hp, hw.mono (fun _ _ h => .inl h) (fun _ h => h)⟩
theorem star_acc (x : List Nat) : (s.free True).acc x ↔ Star s.acc x := by
  constructor
  · rintro (⟨rfl, _⟩ | ⟨p, hp, hw⟩)
    · exact .nil
    · have key : ∀ n x p, x.length ≤ n → s.F p → Way (s.free True).B rd (s.free True).L p x → Star s.acc x := by
        intro n
        induction n with
        | zero =>
          intro x p hx _ hw
          exact absurd (List.length_eq_zero_iff.1 (by omega)) hw.ne_nil
        | succ n ih =>
          intro x p hx hp hw
          obtain ⟨u, v, rfl, h1, rfl | ⟨_, q, hq, h2⟩⟩ := free_split hw
          · exact .cons (.inr ⟨p, hp, h1⟩) .nil
          · have hl : 1 ≤ u.length := by cases u with
              | nil => exact absurd rfl h1.ne_nil
              | cons _ _ => simp
            exact .cons (.inr ⟨p, hp, h1⟩) (ih v q (by rw [List.length_append] at hx; omega) hq h2)
      exact key _ x p (Nat.le_refl _) hp hw
  · intro h
    induction h with
    | nil => exact .inl ⟨rfl, trivial⟩
    | cons hu _ ih =>
      rcases hu with ⟨rfl, _⟩ | ⟨p, hp, hu⟩
      · simpa using ih
      · rcases ih with ⟨rfl, _⟩ | ⟨q, hq, hv⟩
        · rw [List.append_nil]; exact .inr ⟨p, hp, hu.mono (fun _ _ h => .inl h) (fun _ h => h)⟩
        · exact .inr ⟨p, hp, free_join trivial hu hq hv⟩
end
def Str.nothing (rd : Nat → Nat → Prop) (lo : Nat) : Str rd := ⟨lo, lo, True, fun _ => False, fun _ => False, fun _ _ => False⟩
theorem nothing_acc (rd : Nat → Nat → Prop) (lo : Nat) (x : List Nat) : (Str.nothing rd lo).acc x ↔ x = [] := by
  constructor
  · rintro (⟨rfl, _⟩ | ⟨_, h, _⟩)
    · rfl
    · exact h.elim
  · rintro rfl; exact .inl ⟨rfl, trivial⟩
def Str.spot (rd : Nat → Nat → Prop) (lo : Nat) : Str rd := ⟨lo, lo + 1, False, fun p => p = lo, fun p => p = lo, fun _ _ => False⟩
theorem spot_acc {rd : Nat → Nat → Prop} {lo : Nat} {S : Nat → Bool} (h : ∀ c, rd lo c ↔ S c = true) (x : List Nat) : (Str.spot rd lo).acc x ↔ (Pat.one S).lang x := by
  constructor
  · rintro (⟨_, h'⟩ | ⟨p, hp, hw⟩)
    · exact h'.elim
    · have hp' : p = lo := hp
      subst hp'
      cases hw with
      | last hr _ => exact ⟨_, rfl, (h _).1 hr⟩
      | step _ hb _ => exact hb.elim
  · rintro ⟨c, rfl, hc⟩
    exact .inr ⟨lo, rfl, .last ((h c).2 hc) rfl⟩
theorem Cat.congr {l l' m m' : List Nat → Prop} (h : ∀ x, l x ↔ l' x) (h' : ∀ x, m x ↔ m' x) (x : List Nat) : Cat l m x ↔ Cat l' m' x :=
  ⟨fun ⟨u, v, e, a, b⟩ => ⟨u, v, e, (h u).1 a, (h' v).1 b⟩, fun ⟨u, v, e, a, b⟩ => ⟨u, v, e, (h u).2 a, (h' v).2 b⟩⟩
theorem Star.congr {l l' : List Nat → Prop} (h : ∀ x, l x ↔ l' x) (x : List Nat) : Star l x ↔ Star l' x :=
  ⟨fun hs => by induction hs with
    | nil => exact .nil
    | cons hu _ ih => exact .cons ((h _).1 hu) ih, fun hs => by induction hs with
    | nil => exact .nil
    | cons hu _ ih => exact .cons ((h _).2 hu) ih⟩
def Pat.size : Pat → Nat
  | .none => 0
  | .one _ => 1
  | .chain a b => a.size + b.size
  | .alt a b => a.size + b.size
  | .rep a _ copies _ => a.size * copies
theorem star_nil {l : List Nat → Prop} (h : ∀ x, l x ↔ x = []) (x : List Nat) : Star l x ↔ x = [] := by
  constructor
  · intro hs
    induction hs with
    | nil => rfl
    | cons hu _ ih => rw [(h _).1 hu, ih]; rfl
  · rintro rfl; exact .nil
theorem copies_nil {l : List Nat → Prop} (h : ∀ x, l x ↔ x = []) (least : Nat) (endless : Bool) (k : Nat) (x : List Nat) : Copies l least endless k x ↔ x = [] := by
  induction k generalizing x with
  | zero => exact Iff.rfl
  | succ k ih =>
    have hc : ∀ x, Copy l least k endless x ↔ x = [] := by
      intro x
      unfold Copy
      by_cases h1 : k < least
      · rw [if_pos h1]; exact h x
      · rw [if_neg h1]
        cases endless
        · rw [if_neg (by simp), h x]; simp
        · rw [if_pos rfl]; exact star_nil h x
    constructor
    · rintro ⟨u, v, rfl, hu, hv⟩
      rw [(ih u).1 hu, (hc v).1 hv]; rfl
    · rintro rfl
      exact ⟨[], [], rfl, (ih []).2 rfl, (hc []).2 rfl⟩
theorem size_zero (a : Pat) (h : a.size = 0) (x : List Nat) : a.lang x ↔ x = [] := by
  induction a generalizing x with
  | none => exact Iff.rfl
  | one S => simp [Pat.size] at h
  | chain a b iha ihb =>
    have h' : a.size + b.size = 0 := h
    constructor
    · rintro ⟨u, v, rfl, hu, hv⟩
      rw [(iha (by omega) u).1 hu, (ihb (by omega) v).1 hv]; rfl
    · rintro rfl
      exact ⟨[], [], rfl, (iha (by omega) []).2 rfl, (ihb (by omega) []).2 rfl⟩
  | alt a b iha ihb =>
    have h' : a.size + b.size = 0 := h
    show a.lang x ∨ b.lang x ↔ _
    rw [iha (by omega) x, ihb (by omega) x]; simp
  | rep a least copies endless iha =>
    have h' : a.size * copies = 0 := h
    rcases Nat.mul_eq_zero.1 h' with h0 | h0
    · exact copies_nil (iha h0) least endless copies x
    · subst h0; exact Iff.rfl
def stepS (B rd : Nat → Nat → Prop) (S : Nat → Prop) (c : Nat) : Nat → Prop := fun q => rd q c ∧ ∃ p, S p ∧ B p q
theorem steps_way {B rd : Nat → Nat → Prop} {L : Nat → Prop} (x : List Nat) (c : Nat) (S : Nat → Prop) : (∃ p, ((c :: x).foldl (stepS B rd) S) p ∧ L p) ↔ ∃ p q, S p ∧ B p q ∧ Way B rd L q (c :: x) := by
  induction x generalizing c S with
  | nil =>
    constructor
    · rintro ⟨q, ⟨hr, p, hp, hb⟩, hl⟩
      exact ⟨p, q, hp, hb, .last hr hl⟩
    · rintro ⟨p, q, hp, hb, hw⟩
      cases hw with
      | last hr hl => exact ⟨q, ⟨hr, p, hp, hb⟩, hl⟩
      | step _ _ hx => exact absurd rfl hx.ne_nil
  | cons d y ih =>
    rw [List.foldl_cons, ih d (stepS B rd S c)]
    constructor
    · rintro ⟨p, q, ⟨hr, p0, hp0, hb0⟩, hb, hw⟩
      exact ⟨p0, p, hp0, hb0, .step hr hb hw⟩
    · rintro ⟨p0, p, hp0, hb0, hw⟩
      cases hw with
      | step hr hb hx => exact ⟨p, _, ⟨hr, p0, hp0, hb0⟩, hb, hx⟩
theorem ahead_acc {rd : Nat → Nat → Prop} {s : Str rd} {B : Nat → Nat → Prop} {L : Nat → Prop} {a : Nat} (hs : s.In) (ha : a < s.lo) (hB : ∀ p q, B p q ↔ (p = a ∧ s.F q) ∨ s.B p q) (hL : ∀ p, L p ↔ (p = a ∧ s.e) ∨ s.L p) (x : List Nat) :
    (∃ p, (x.foldl (stepS B rd) (fun p => p = a)) p ∧ L p) ↔ s.acc x := by
  have hw : ∀ q y, s.lo ≤ q → (Way B rd L q y ↔ Way s.B rd s.L q y) := by
    intro q y hq
    constructor
    · intro h
      induction h with
      | last hr hl =>
        rcases (hL _).1 hl with ⟨h, _⟩ | h
        · omega
        · exact .last hr h
      | step hr hb _ ih =>
        rcases (hB _ _).1 hb with ⟨h, _⟩ | h
        · omega
        · exact .step hr h (ih (hs.be _ _ h).2.1)
    · exact Way.mono (fun p q h => (hB p q).2 (.inr h)) (fun p h => (hL p).2 (.inr h))
  cases x with
  | nil =>
    constructor
    · rintro ⟨p, hp, hl⟩
      have hp' : p = a := hp
      subst hp'
      rcases (hL p).1 hl with ⟨_, he⟩ | h
      · exact .inl ⟨rfl, he⟩
      · have := hs.la _ h; omega
    · rintro (⟨_, he⟩ | ⟨p, _, hw'⟩)
      · exact ⟨a, rfl, (hL a).2 (.inl ⟨rfl, he⟩)⟩
      · exact absurd rfl hw'.ne_nil
  | cons c x =>
    rw [steps_way]
    constructor
    · rintro ⟨p, q, rfl, hb, hw'⟩
      rcases (hB p q).1 hb with ⟨_, hq⟩ | h
      · exact .inr ⟨q, hq, (hw q _ (hs.fi q hq).1).1 hw'⟩
      · have := (hs.be _ _ h).1; omega
    · rintro (⟨h, _⟩ | ⟨q, hq, hw'⟩)
      · simp at h
      · exact ⟨a, q, rfl, (hB a q).2 (.inl ⟨rfl, hq⟩), (hw q _ (hs.fi q hq).1).2 hw'⟩
end Go.Proofs.YtpngikmcjkjdaaaGreatDoor
namespace Go.Proofs.YtpngikmcjkjdaaaGreatDoor
open Go.RowKit
set_option linter.unusedVariables false
def rcells (X : Nat → Nat → Nat) : Nat → List Value
  | 0 => []
  | k + 1 => rcells X k ++ (List.range 8).map fun c => .int .i64 ((X k c : Nat) : Int)
def acells (A : Nat → Bool) : Nat → List Value
  | 0 => []
  | k + 1 => acells A k ++ [.bool (A k)]
theorem rcells_congr {X Y : Nat → Nat → Nat} {k : Nat} (h : ∀ i c, i < k → c < 8 → X i c = Y i c) : rcells X k = rcells Y k := by
  induction k with
  | zero => rfl
  | succ k ih =>
    simp only [rcells]
    rw [ih (fun i c hi hc => h i c (by omega) hc)]
    congr 1
    apply List.map_congr_left
    intro c hc
    rw [h k c (by omega) (by simpa using hc)]
theorem pn_new {good : Nat → Prop} {S : Nat → Nat → Nat} {ps : List Nat} {p q : Nat} (h : PRel good S ps p) (i c : Nat) (hc : c < 8) (hr : 8 * i + c < p) : pn S (ps ++ [q]) i c = pn S ps i c := by
  have hc := h.clo _ hr
  rw [show (8 * i + c) / 8 = i by omega, show (8 * i + c) % 8 = c by omega] at hc
  simp only [pn]
  rw [getD_app _ _ _ hc.1, List.idxOf_append, if_pos hc.2]
theorem acells_len (A : Nat → Bool) (k : Nat) : (acells A k).length = k := by
  induction k with
  | zero => rfl
  | succ k ih => simp [acells, ih]
theorem rcells_len (X : Nat → Nat → Nat) (k : Nat) : (rcells X k).length = k * 8 := by
  induction k with
  | zero => rfl
  | succ k ih => simp only [rcells, List.length_append, ih, List.length_map, List.length_range]; omega
theorem acells_at (A : Nat → Bool) (k i : Nat) (hi : i < k) : (acells A k)[i]? = some (.bool (A i)) := by
  induction k with
  | zero => omega
  | succ k ih =>
    simp only [acells]
    by_cases e : i = k
    · subst e; rw [List.getElem?_append_right (by rw [acells_len]; exact Nat.le_refl _), acells_len]; simp
    · rw [List.getElem?_append_left (by rw [acells_len]; omega)]; exact ih (by omega)
theorem rcells_at (X : Nat → Nat → Nat) (k i c : Nat) (hi : i < k) (hc : c < 8) : (rcells X k)[i * 8 + c]? = some (.int .i64 ((X i c : Nat) : Int)) := by
  induction k with
  | zero => omega
  | succ k ih =>
    simp only [rcells]
    by_cases e : i = k
    · subst e
      rw [List.getElem?_append_right (by rw [rcells_len]; omega), rcells_len, show i * 8 + c - i * 8 = c by omega]
      simp [hc]
    · rw [List.getElem?_append_left (by rw [rcells_len]; omega)]; exact ih (by omega)
end Go.Proofs.YtpngikmcjkjdaaaGreatDoor
