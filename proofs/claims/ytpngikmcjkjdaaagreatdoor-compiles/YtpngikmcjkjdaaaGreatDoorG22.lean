import Derived.Deep.Upon
import Derived.Test.YtpngikmcjkjdaaaGreatDoorG12
import Derived.Test.YtpngikmcjkjdaaaGreatDoorG16
import Derived.Test.YtpngikmcjkjdaaaGreatDoorG17
import Derived.Test.YtpngikmcjkjdaaaGreatDoorG2
import Derived.Test.YtpngikmcjkjdaaaGreatDoorG20
import Derived.Test.YtpngikmcjkjdaaaGreatDoorG21
import Derived.Test.YtpngikmcjkjdaaaGreatDoorG3
set_option linter.unusedVariables false
set_option linter.unusedSimpArgs false
namespace Go.Proofs.YtpngikmcjkjdaaaGreatDoor
open Go.RowKit
set_option linter.unusedVariables false
structure RLay where
  (aa an : Option Addr)
  (na ca nn cn : Nat)
  (ra : Nat → Option Addr)
  (rl rc : Nat → Nat)
structure RawAt (w : World) (r : RLay) (A : Nat → Bool) (X : Nat → Nat → Int) : Prop where
  la : r.na ≤ 9223372036854775807
  ln : r.nn ≤ 9223372036854775807
  lr : ∀ i, i < r.nn → r.rl i ≤ 9223372036854775807
  acc : ∀ i, i < r.na → ∃ b o, r.aa = some ⟨b, o, none⟩ ∧ w.cell? ⟨b, o + i, none⟩ = some (.bool (A i))
  row : ∀ i, i < r.nn → ∃ b o, r.an = some ⟨b, o, none⟩ ∧ w.cell? ⟨b, o + i, none⟩ = some (.slice (r.ra i) (r.rl i) (r.rc i))
  cel : ∀ i c, i < r.nn → c < r.rl i → ∃ b o, r.ra i = some ⟨b, o, none⟩ ∧ w.cell? ⟨b, o + c, none⟩ = some (.int .i64 (X i c))
theorem RawAt.below {w w' : World} {r : RLay} {A : Nat → Bool} {X : Nat → Nat → Int} (h : RawAt w r A X) (hb : Below w.heap.size w w') : RawAt w' r A X :=
  ⟨h.la, h.ln, h.lr, fun i hi => by obtain ⟨b, o, e, hc⟩ := h.acc i hi; exact ⟨b, o, e, by rw [(bcell hb).1 _ _ (lt_of_cell hc)]; exact hc⟩,
    fun i hi => by obtain ⟨b, o, e, hc⟩ := h.row i hi; exact ⟨b, o, e, by rw [(bcell hb).1 _ _ (lt_of_cell hc)]; exact hc⟩,
    fun i c hi hc => by obtain ⟨b, o, e, hcc⟩ := h.cel i c hi hc; exact ⟨b, o, e, by rw [(bcell hb).1 _ _ (lt_of_cell hcc)]; exact hcc⟩⟩
end Go.Proofs.YtpngikmcjkjdaaaGreatDoor
namespace Go.Proofs.YtpngikmcjkjdaaaGreatDoor
open Go.RowKit
set_option linter.unusedVariables false
structure NotMem (W : World) (b : Nat) (w : World) (va vn : Value) (k : Nat) (A : Nat → Bool) : Prop where
  blw : Below b W w
  blk : w.heap[b]? = some (.cells #[va, vn] 41 (0, 0))
  own : w.ownsRow (b + 1) 4 1 va k (acells A k)
theorem NotMem.below {W w w2 : World} {b k : Nat} {va vn : Value} {A : Nat → Bool} (h : NotMem W b w va vn k A) (hb : Below w.heap.size w w2) : NotMem W b w2 va vn k A :=
  ⟨h.blw.trans (hb.mono (by have := heap_lt h.blk; omega)), by rw [hb.block _ (heap_lt h.blk)]; exact h.blk, ownsRow_below h.own hb⟩
theorem NotMem.app {W w w2 : World} {b k : Nat} {va vn : Value} {A : Nat → Bool} (h : NotMem W b w va vn k A) {g cap : Nat} (hown : w2.ownsRow (b + 1) 4 1 (.slice (some ⟨g, 0, none⟩) (k + 1) cap) (k + 1) (acells A k ++ [.bool (A k)])) (hg : w.grownBy w2 va.ownBlock) :
    w2.heap[b]? = some (.cells #[va, vn] 41 (0, 0)) ∧ NotMem W b (w2.setCell ⟨b, 0, none⟩ (.slice (some ⟨g, 0, none⟩) (k + 1) cap)) (.slice (some ⟨g, 0, none⟩) (k + 1) cap) vn (k + 1) A := by
  have hs := heap_lt h.blk
  have hlt := fun x e => h.own.lt x e
  have hblk : w2.heap[b]? = some (.cells #[va, vn] 41 (0, 0)) := by
    rw [hg.block _ hs (fun e => by have := (hlt _ e.symm).1; omega)]; exact h.blk
  exact ⟨hblk, (h.blw.grown hg (by omega) (fun x e => by have := (hlt x e).1; omega)).setCell (p := ⟨b, 0, none⟩) (Nat.le_refl _) _, two_set0 hblk, ownsRow_setCell_below hown (by simp) _⟩
end Go.Proofs.YtpngikmcjkjdaaaGreatDoor
namespace Go.Proofs.YtpngikmcjkjdaaaGreatDoor
open Go.RowKit
set_option linter.unusedVariables false
theorem isBudget_ok (n : Int) (w : World) :
    Calls Tryz.prog 62 #[.int .i64 n] w fun e w' => e = .returned (.bool (decide (1 ≤ n) && decide (n ≤ 40))) ∧ w' = w := by
  by_cases h1 : 1 ≤ n
  · by_cases h2 : n ≤ 40
    · have e : (decide (1 ≤ n) && decide (n ≤ 40)) = true := by simp [h1, h2]
      rw [e]
      go_enter Tryz.func62, Tryz.ntmps62
      go_wp2_with fail
      go_ret
      exact ⟨ret_bool (by simp), rfl⟩
    · have e : (decide (1 ≤ n) && decide (n ≤ 40)) = false := by simp [h2]
      rw [e]
      go_enter Tryz.func62, Tryz.ntmps62
      go_wp2_with fail
      go_ret
      exact ⟨ret_bool (by simp), rfl⟩
  · have e : (decide (1 ≤ n) && decide (n ≤ 40)) = false := by simp [h1]
    rw [e]
    go_enter Tryz.func62, Tryz.ntmps62
    go_wp2_with fail
    go_ret
    exact ⟨ret_bool (by simp), rfl⟩
end Go.Proofs.YtpngikmcjkjdaaaGreatDoor
namespace Go.Proofs.YtpngikmcjkjdaaaGreatDoor
def cv (n q : Nat) : Nat := q / 40 * n + q % 40
def atv (n : Nat) (ps : List Nat) (r : Nat) : Nat := if r ∈ ps.map (cv n) then (ps.map (cv n)).idxOf r + 1 else 0
end Go.Proofs.YtpngikmcjkjdaaaGreatDoor
namespace Go.Proofs.YtpngikmcjkjdaaaGreatDoor
open Go.RowKit
set_option linter.unusedVariables false
set_option maxRecDepth 20000 in
set_option maxHeartbeats 1000000 in
theorem bounded_no (aa an : Option Addr) (na ca nn cn : Nat) (budget : Int) (w : World) (h : budget < (nn : Int)) :
    Calls Tryz.prog 66 #[.agg #[.slice aa na ca, .slice an nn cn], .int .i64 budget] w
      fun e w' => e = .returned (.tuple #[.agg #[.slice none 0 0, .slice none 0 0], .int .i64 5]) ∧ Below w.heap.size w w' := by
  obtain ⟨W, hW⟩ : ∃ W, W = (w.alloc (.cells #[.slice aa na ca, .slice an nn cn] 41)).alloc (.cells #[.slice none 0 0, .slice none 0 0] 41) := ⟨_, rfl⟩
  have BW : Below w.heap.size w W := by rw [hW]; exact ((Below.refl _ _).alloc (Nat.le_refl _) _).alloc (by simp) _
  have b0 : W.heap[w.heap.size]? = some (.cells #[.slice aa na ca, .slice an nn cn] 41 (0, 0)) := by rw [hW]; exact heap_at_old (heap_at_new (by simp))
  have b1 : W.heap[w.heap.size + 1]? = some (.cells #[.slice none 0 0, .slice none 0 0] 41 (0, 0)) := by rw [hW]; exact heap_at_new (by simp)
  obtain ⟨x0, x1, _, _⟩ := cell_two b0
  obtain ⟨q0, q1, p0, p1⟩ := cell_two b1
  have HF : Hid _ := below_res BW (b := w.heap.size + 1) (by omega) (.slice none 0 0) (.slice none 0 0)
  go_enter Tryz.func66, Tryz.ntmps66
  go_upto_region 1 with fail
  rw [← hW]
  clear hW
  go_wp2_with fail
  obtain ⟨_, r2, r1⟩ := res_two (u := .slice none 0 0) (v := .slice none 0 0) b1
  refine bodyPost_ret (v := .tuple #[.agg #[.slice none 0 0, .slice none 0 0], .int .i64 5]) (by simp [results, Tryz.results66, go_sem, r1, r2]) rfl ?_
  exact ⟨rfl, HF.out⟩
set_option maxRecDepth 20000 in
set_option maxHeartbeats 1000000 in
theorem bounded_yes (aa an : Option Addr) (na ca nn cn : Nat) (budget : Int) (w : World) (h : (nn : Int) ≤ budget) :
    Calls Tryz.prog 66 #[.agg #[.slice aa na ca, .slice an nn cn], .int .i64 budget] w
      fun e w' => e = .returned (.tuple #[.agg #[.slice aa na ca, .slice an nn cn], .int .i64 0]) ∧ Below w.heap.size w w' := by
  obtain ⟨W, hW⟩ : ∃ W, W = (w.alloc (.cells #[.slice aa na ca, .slice an nn cn] 41)).alloc (.cells #[.slice none 0 0, .slice none 0 0] 41) := ⟨_, rfl⟩
  have BW : Below w.heap.size w W := by rw [hW]; exact ((Below.refl _ _).alloc (Nat.le_refl _) _).alloc (by simp) _
  have b0 : W.heap[w.heap.size]? = some (.cells #[.slice aa na ca, .slice an nn cn] 41 (0, 0)) := by rw [hW]; exact heap_at_old (heap_at_new (by simp))
  have b1 : W.heap[w.heap.size + 1]? = some (.cells #[.slice none 0 0, .slice none 0 0] 41 (0, 0)) := by rw [hW]; exact heap_at_new (by simp)
  obtain ⟨x0, x1, _, _⟩ := cell_two b0
  obtain ⟨q0, q1, p0, p1⟩ := cell_two b1
  have hn : ¬ budget < (nn : Int) := by omega
  have HF : Hid _ := below_res BW (b := w.heap.size + 1) (by omega) (.slice aa na ca) (.slice an nn cn)
  go_enter Tryz.func66, Tryz.ntmps66
  go_upto_region 1 with fail
  rw [← hW]
  clear hW
  go_wp2_with fail
  obtain ⟨_, r2, r1⟩ := res_two (u := .slice aa na ca) (v := .slice an nn cn) b1
  refine bodyPost_ret (v := .tuple #[.agg #[.slice aa na ca, .slice an nn cn], .int .i64 0]) (by simp [results, Tryz.results66, go_sem, r1, r2]) rfl ?_
  exact ⟨rfl, HF.out⟩
theorem IsLeast.lang_congr {R : Tab} {L L' : List Nat → Bool} (h : IsLeast R L) (he : ∀ x, Notes x → L x = L' x) : IsLeast R L' := ⟨h.num, h.apart, fun x hx => (h.lang x hx).trans (he x hx)⟩
end Go.Proofs.YtpngikmcjkjdaaaGreatDoor
namespace Go.Proofs.YtpngikmcjkjdaaaGreatDoor
open Go.RowKit
set_option linter.unusedVariables false
section
variable {w w2 : World}
theorem own_apart2 {base base' e e' s s' n n' : Nat} {v v' : Value} {x x' : List Value} (h : w.ownsRow base e s v n x) (h' : w.ownsRow base' e' s' v' n' x') (hne : e ≠ e') (g : Nat) (hg : v.ownBlock = some g) (hg' : v'.ownBlock = some g) : False := by
  rcases h.2 with ⟨rfl, _⟩ | ⟨a, cap, cur, rfl, _, h1, _⟩
  · simp [Value.ownBlock] at hg
  · rcases h'.2 with ⟨rfl, _⟩ | ⟨a', cap', cur', rfl, _, h2, _⟩
    · simp [Value.ownBlock] at hg'
    · simp only [Value.ownBlock, Option.some.injEq] at hg hg'
      subst hg; subst hg'
      rw [h1] at h2
      simp only [Option.some.injEq, Obj.cells.injEq] at h2
      exact hne h2.2.1
theorem own_blk {base e s n t b : Nat} {v : Value} {x : List Value} {cs : Array Value} {k : Nat × Nat} (h : w.ownsRow base e s v n x) (hb : w.heap[b]? = some (.cells cs t k)) (hne : e ≠ t) (g : Nat) (hg : v.ownBlock = some g) : g ≠ b := by
  rcases h.2 with ⟨rfl, _⟩ | ⟨a, cap, cur, rfl, _, h1, _⟩
  · simp [Value.ownBlock] at hg
  · simp only [Value.ownBlock, Option.some.injEq] at hg
    subst hg
    rintro rfl
    rw [h1] at hb
    simp only [Option.some.injEq, Obj.cells.injEq] at hb
    exact hne hb.2.1
theorem own_keeps {base base' e e' s s' n n' : Nat} {v v' : Value} {x x' : List Value} (h : w.ownsRow base e s v n x) (h' : w.ownsRow base' e' s' v' n' x') (hne : e ≠ e') (hg : w.grownBy w2 v'.ownBlock) : w2.ownsRow base e s v n x := by
  refine h.kept hg ?_
  cases hv : v.ownBlock with
  | none => exact .inl rfl
  | some k => exact .inr (fun e => own_apart2 h h' hne k hv e.symm)
theorem own_keeps2 {base e s n : Nat} {v v' : Value} {x : List Value} (h : w.ownsRow base e s v n x) (hd : ∀ g, v.ownBlock = some g → v'.ownBlock = some g → False) (hg : w.grownBy w2 v'.ownBlock) : w2.ownsRow base e s v n x := by
  refine h.kept hg ?_
  cases hv : v.ownBlock with
  | none => exact .inl rfl
  | some k => exact .inr (fun e => hd k hv e.symm)
end
section
variable {W W' : World} {b : Nat} {w w1 w2 : World} {va vn vr vp : Value} {ka kn : Nat} {A : Nat → Bool} {R C : Nat → Nat} {X : Nat → Nat → Nat} {c : Nat} {x : List Value}
theorem BuildMem.rebase (h : BuildMem W b w va vn ka kn A R C X) : BuildMem w b w va vn ka kn A R C X :=
  ⟨⟨Below.refl _ _, h.two.blk, h.two.own0, h.two.own1, h.two.dis⟩, h.rows⟩
theorem acells_congr {A A' : Nat → Bool} {k : Nat} (h : ∀ i, i < k → A i = A' i) : acells A k = acells A' k := by
  induction k with
  | zero => rfl
  | succ k ih => simp only [acells]; rw [ih (fun i hi => h i (by omega)), h k (by omega)]
theorem icells_congr {X Y : Nat → Nat} {k : Nat} (h : ∀ i, i < k → X i = Y i) : icells X k = icells Y k := by
  simp only [icells]; apply List.map_congr_left; intro i hi; rw [h i (by simpa using hi)]
theorem BuildMem.congr (h : BuildMem W b w va vn ka kn A R C X) {A' : Nat → Bool} {X' : Nat → Nat → Nat} (ha : ∀ i, i < ka → A i = A' i) (hx : ∀ i c, i < kn → c < 8 → X i c = X' i c) : BuildMem W b w va vn ka kn A' R C X' :=
  ⟨by have := h.two; rw [acells_congr ha] at this; exact this, fun i hi => by have := h.rows i hi; rw [icells_congr (fun c hc => hx i c hi hc)] at this; exact this⟩
theorem BuildMem.set (h : BuildMem w b w va vn ka kn A R C X) (a : Addr) (v : Value) (ha : a.block < b) : BuildMem (w.setCell a v) b (w.setCell a v) va vn ka kn A R C X := by
  refine ⟨⟨Below.refl _ _, heap_set_other h.two.blk (by omega), ownsRow_set h.two.own0 _ _ (fun g hg => by have := (h.two.own0.lt g hg).1; omega), ownsRow_set h.two.own1 _ _ (fun g hg => by have := (h.two.own1.lt g hg).1; omega), h.two.dis⟩, fun i hi => ?_⟩
  exact ownsRow_set (h.rows i hi) _ _ (fun g hg => by have := ((h.rows i hi).lt g hg).1; omega)
end
structure BothMem (W : World) (B b : Nat) (w : World) (n mn : Nat) (ps : List Nat) (vp va vn : Value) (ka kn : Nat) (A : Nat → Bool) (R C : Nat → Nat) (X : Nat → Nat → Nat) : Prop where
  blw : Below B W w
  tab : w.rowIs B 3 mn (fun r => .int .i64 (atv n ps r : Nat))
  own : w.ownsRow (B + 1) 3 1 vp ps.length (ints (ps.map (cv n)))
  bm : BuildMem w b w va vn ka kn A R C X
  dp : ∀ i, i < kn → vp.ownBlock ≠ some (R i)
  hb : B + 1 ≤ b
structure BothRow (W : World) (B b : Nat) (w : World) (n mn : Nat) (ps : List Nat) (vp va vn vr : Value) (ka kn c : Nat) (A : Nat → Bool) (R C : Nat → Nat) (X : Nat → Nat → Nat) : Prop where
  mem : BothMem W B b w n mn ps vp va vn ka kn A R C X
  row : w.ownsRow (b + 1) 3 1 vr c (icells (X kn) c)
  dr : ∀ i, i < kn → vr.ownBlock ≠ some (R i)
  dpr : ∀ g, vp.ownBlock = some g → vr.ownBlock = some g → False
section
variable {W : World} {B b : Nat} {w w1 w2 : World} {n mn : Nat} {ps : List Nat} {vp va vn vr : Value} {ka kn c : Nat} {A : Nat → Bool} {R C : Nat → Nat} {X : Nat → Nat → Nat}
theorem BothMem.siz (h : BothMem W B b w n mn ps vp va vn ka kn A R C X) : B < w.heap.size ∧ b < w.heap.size := ⟨h.tab.lt, heap_lt h.bm.two.blk⟩
theorem BothMem.below (h : BothMem W B b w n mn ps vp va vn ka kn A R C X) (hb : Below w.heap.size w w1) : BothMem W B b w1 n mn ps vp va vn ka kn A R C X :=
  ⟨h.blw.trans (hb.mono (by have := h.siz; omega)), h.tab.of_block (hb.block _ h.tab.lt), ownsRow_below h.own hb, (h.bm.below hb).rebase, h.dp, h.hb⟩
theorem BothRow.below (h : BothRow W B b w n mn ps vp va vn vr ka kn c A R C X) (hb : Below w.heap.size w w1) : BothRow W B b w1 n mn ps vp va vn vr ka kn c A R C X :=
  ⟨h.mem.below hb, ownsRow_below h.row hb, h.dr, h.dpr⟩
theorem BothMem.congr (h : BothMem W B b w n mn ps vp va vn ka kn A R C X) {A' : Nat → Bool} {X' : Nat → Nat → Nat} (ha : ∀ i, i < ka → A i = A' i) (hx : ∀ i c, i < kn → c < 8 → X i c = X' i c) : BothMem W B b w n mn ps vp va vn ka kn A' R C X' :=
  ⟨h.blw, h.tab, h.own, h.bm.congr ha hx, h.dp, h.hb⟩
theorem BothRow.congr (h : BothRow W B b w n mn ps vp va vn vr ka kn c A R C X) {A' : Nat → Bool} {X' : Nat → Nat → Nat} (ha : ∀ i, i < ka → A i = A' i) (hx : ∀ i c, i < kn → c < 8 → X i c = X' i c) (hr : ∀ d, d < c → X kn d = X' kn d) : BothRow W B b w n mn ps vp va vn vr ka kn c A' R C X' :=
  ⟨h.mem.congr ha hx, by have := h.row; rw [icells_congr hr] at this; exact this, h.dr, h.dpr⟩
theorem BothMem.acc (h : BothMem W B b w n mn ps vp va vn ka kn A R C X) {g cap : Nat} (hown : w2.ownsRow (b + 1) 4 1 (.slice (some ⟨g, 0, none⟩) (ka + 1) cap) (ka + 1) (acells A ka ++ [.bool (A ka)])) (hg : w.grownBy w2 va.ownBlock) (hf : va.ownBlock = some g ∨ g = w.heap.size) :
    BothMem W B b (w2.setCell ⟨b, 0, none⟩ (.slice (some ⟨g, 0, none⟩) (ka + 1) cap)) n mn ps vp (.slice (some ⟨g, 0, none⟩) (ka + 1) cap) vn (ka + 1) kn A R C X := by
  have hs := h.siz
  have hB := h.hb
  have h0 := h.bm.two.own0
  have hown' := own_keeps h.own h0 (by decide) hg
  refine ⟨(h.blw.grown hg (by omega) (fun k e => by have := (h0.lt k e).1; omega)).setCell (by simp; omega) _, (rowIs_grown h.tab hg (fun e => by have := (h0.lt _ e).1; omega)).setOther (by simp; omega) _, ownsRow_set hown' _ _ (fun g' hg' => ?_), (h.bm.acc hown hg hf).rebase, h.dp, h.hb⟩
  exact own_blk hown' (h.bm.two.grown0 hg) (by decide) g' hg'
theorem BothMem.row0 (h : BothMem W B b w n mn ps vp va vn ka kn A R C X) : BothRow W B b w n mn ps vp va vn (.slice none 0 0) ka kn 0 A R C X :=
  ⟨h, World.ownsRow_nil _ _ _ _, by intro i _ e; simp [Value.ownBlock] at e, by intro g _ e; simp [Value.ownBlock] at e⟩
theorem BothRow.put (h : BothRow W B b w n mn ps vp va vn vr ka kn c A R C X) {g cap : Nat} (hown : w2.ownsRow (b + 1) 3 1 (.slice (some ⟨g, 0, none⟩) (c + 1) cap) (c + 1) (icells (X kn) c ++ [.int .i64 ((X kn c : Nat) : Int)])) (hg : w.grownBy w2 vr.ownBlock) (hf : vr.ownBlock = some g ∨ g = w.heap.size) :
    BothRow W B b w2 n mn ps vp va vn (.slice (some ⟨g, 0, none⟩) (c + 1) cap) ka kn (c + 1) A R C X := by
  have hm := h.mem
  have hs := hm.siz
  have hB := hm.hb
  rw [← icells_succ] at hown
  refine ⟨⟨hm.blw.grown hg (by omega) (fun k e => by have := (h.row.lt k e).1; omega), rowIs_grown hm.tab hg (fun e => by have := (h.row.lt _ e).1; omega), own_keeps2 hm.own h.dpr hg, (hm.bm.grown h.row h.dr hg).rebase, hm.dp, hm.hb⟩, hown, ?_, ?_⟩
  · intro i hi e
    simp only [Value.ownBlock, Option.some.injEq] at e
    rcases hf with hf | hf
    · exact h.dr i hi (by rw [hf, e])
    · have := ((hm.bm.rows i hi).lt (R i) rfl).2; omega
  · intro g' h1 h2
    simp only [Value.ownBlock, Option.some.injEq] at h2
    subst h2
    rcases hf with hf | hf
    · exact h.dpr _ h1 hf
    · have := (hm.own.lt _ h1).2; omega
theorem BothRow.done {gr cr : Nat} (h : BothRow W B b w n mn ps vp va vn (.slice (some ⟨gr, 0, none⟩) 8 cr) ka kn 8 A R C X) {g cap : Nat}
    (hown : w2.ownsRow (b + 1) 24 1 (.slice (some ⟨g, 0, none⟩) (kn + 1) cap) (kn + 1) (scells R C kn ++ [.slice (some ⟨gr, 0, none⟩) 8 cr])) (hg : w.grownBy w2 vn.ownBlock) (hf : vn.ownBlock = some g ∨ g = w.heap.size) :
    BothMem W B b (w2.setCell ⟨b, 1, none⟩ (.slice (some ⟨g, 0, none⟩) (kn + 1) cap)) n mn ps vp va (.slice (some ⟨g, 0, none⟩) (kn + 1) cap) ka (kn + 1) A (fun i => if i = kn then gr else R i) (fun i => if i = kn then cr else C i) X := by
  have hm := h.mem
  have hs := hm.siz
  have hB := hm.hb
  have h1 := hm.bm.two.own1
  have hown' := own_keeps hm.own h1 (by decide) hg
  refine ⟨(hm.blw.grown hg (by omega) (fun k e => by have := (h1.lt k e).1; omega)).setCell (by simp; omega) _, (rowIs_grown hm.tab hg (fun e => by have := (h1.lt _ e).1; omega)).setOther (by simp; omega) _, ownsRow_set hown' _ _ (fun g' hg' => ?_), (hm.bm.nxt h.row hown hg hf).rebase, ?_, hm.hb⟩
  · exact own_blk hown' (hm.bm.two.grown1 hg) (by decide) g' hg'
  · intro i hi e
    by_cases e' : i = kn
    · simp only [e', if_true] at e; exact h.dpr gr e rfl
    · simp only [if_neg e'] at e; exact hm.dp i (by omega) e
end
end Go.Proofs.YtpngikmcjkjdaaaGreatDoor
namespace Go.Proofs.YtpngikmcjkjdaaaGreatDoor
open Go.RowKit
set_option linter.unusedVariables false
theorem BothMem.start {W : World} {B n mn : Nat} {A : Nat → Bool} {R C : Nat → Nat} {X : Nat → Nat → Nat} (hWs : W.heap.size = B) :
    BothMem W B (B + 1 + 1) (((W.alloc (.cells ((madeCells #[.int .i64 0] mn).setIfInBounds 0 (.int .i64 1)) 3)).alloc (.cells #[.int .i64 0] 3)).alloc (.cells #[.slice none 0 0, .slice none 0 0] 41)) n mn [0] (.slice (some ⟨B + 1, 0, none⟩) 1 1) (.slice none 0 0) (.slice none 0 0) 0 0 A R C X := by
  subst hWs
  refine ⟨(((Below.refl _ _).alloc (Nat.le_refl _) _).alloc (by simp) _).alloc (by simp; omega) _, ⟨_, heap_at_old (heap_at_old (heap_at_new rfl)), by simp [size_madeCells], fun i hi => ?_⟩, ?_, BuildMem.start (Below.refl _ _) (heap_at_new (by simp)), fun i hi => absurd hi (by omega), by omega⟩
  · by_cases e : i = 0
    · subst e
      rw [Array.getElem?_setIfInBounds_self_of_lt (by simpa [size_madeCells] using hi)]
      simp [atv, cv]
    · rw [Array.getElem?_setIfInBounds_ne (by omega)]
      simp [atv, cv, madeCells, hi, Nat.mod_one, e]
  · have h := World.ownsRow_lit (base := W.heap.size + 1) (e := 3) (size := 1) (W.alloc (.cells ((madeCells #[.int .i64 0] mn).setIfInBounds 0 (.int .i64 1)) 3)) #[.int .i64 0] 1 (by simp) (by decide) rfl
    have h2 := h.alloc (.cells #[.slice none 0 0, .slice none 0 0] 41)
    simpa [ints, cv] using h2
end Go.Proofs.YtpngikmcjkjdaaaGreatDoor
namespace Go.Proofs.YtpngikmcjkjdaaaGreatDoor
open Go.RowKit
set_option linter.unusedVariables false
set_option linter.unusedSimpArgs false
set_option maxRecDepth 20000 in
set_option maxHeartbeats 4000000 in
theorem rcompile_long (s : ByteArray) (b : Int) (w : World) (hss : s.size ≤ maxLen) (hs : 40 < s.size) : Calls Tryz.prog 31 #[.string s, .int .i64 b] w (CompNo 1 0 w) := by
  unfold maxLen at hss
  obtain ⟨W, hW⟩ : ∃ W, W = w.alloc (.cells #[.slice none 0 0, .slice none 0 0] 41) := ⟨_, rfl⟩
  have BW : Below w.heap.size w W := by rw [hW]; exact (Below.refl _ _).alloc (Nat.le_refl _) _
  have b0 : W.heap[w.heap.size]? = some (.cells #[.slice none 0 0, .slice none 0 0] 41 (0, 0)) := by rw [hW]; exact heap_at_new rfl
  have hs2 : (40 : Int) < (s.size : Int) := by omega
  obtain ⟨q0, q1, p0, p1⟩ := cell_two b0
  go_enter Tryz.func31, Tryz.ntmps31
  go_upto_region 1 with fail
  rw [← hW]
  clear hW
  go_wp2_with fail
  obtain ⟨_, r2, r1⟩ := res_two (u := .slice none 0 0) (v := .slice none 0 0) b0
  refine bodyPost_ret (v := .tuple #[.agg #[.slice none 0 0, .slice none 0 0], .int .i64 1, .int .i64 0]) (by simp [results, Tryz.results31, go_sem, r1, r2]) rfl ?_
  exact ⟨rfl, below_res BW (b := w.heap.size) (by omega) (.slice none 0 0) (.slice none 0 0)⟩
set_option maxRecDepth 20000 in
set_option maxHeartbeats 4000000 in
theorem rcompile_bad (s : ByteArray) (b : Int) (w : World) (hs : s.size ≤ 40) {a : Nat} (ha : Stuck s a) : Calls Tryz.prog 31 #[.string s, .int .i64 b] w (CompNo 2 a w) := by
  obtain ⟨W, hW⟩ : ∃ W, W = w.alloc (.cells #[.slice none 0 0, .slice none 0 0] 41) := ⟨_, rfl⟩
  have BW : Below w.heap.size w W := by rw [hW]; exact (Below.refl _ _).alloc (Nat.le_refl _) _
  have b0 : W.heap[w.heap.size]? = some (.cells #[.slice none 0 0, .slice none 0 0] 41 (0, 0)) := by rw [hW]; exact heap_at_new rfl
  have hs2 : ¬ (40 : Int) < (s.size : Int) := by omega
  obtain ⟨q0, q1, p0, p1⟩ := cell_two b0
  have HP : Calls Tryz.prog 69 #[.string s] W (fun e w' => e = .returned (.int .i64 (a : Int)) ∧ W = w') := (rplace_any s W hs).mono (fun e w' ⟨r, he, hP, hw⟩ => ⟨by rw [he, place_stuck hP ha], hw⟩)
  clear ha
  go_enter Tryz.func31, Tryz.ntmps31
  go_upto_region 1 with fail
  rw [← hW]
  clear hW
  go_wp2_with fail
  refine HP.mono ?_
  clear HP
  rintro e w1 ⟨rfl, rfl⟩
  go_wp2_with fail
  obtain ⟨_, r2, r1⟩ := res_two (u := .slice none 0 0) (v := .slice none 0 0) b0
  refine bodyPost_ret (v := .tuple #[.agg #[.slice none 0 0, .slice none 0 0], .int .i64 2, .int .i64 (a : Int)]) (by simp [results, Tryz.results31, go_sem, r1, r2]) rfl ?_
  exact ⟨rfl, below_res BW (b := w.heap.size) (by omega) (.slice none 0 0) (.slice none 0 0)⟩
set_option maxRecDepth 20000 in
set_option maxHeartbeats 4000000 in
theorem rcompile_span (s : ByteArray) (b : Int) (w : World) (hs : s.size ≤ 40) {p : Pat} {t : Sp} (hp : parseF s = .ok p t) (hta : t.a = s.size) (hbk : t.bk = true) : Calls Tryz.prog 31 #[.string s, .int .i64 b] w (CompNo 3 t.sp w) := by
  obtain ⟨W, hW⟩ : ∃ W, W = w.alloc (.cells #[.slice none 0 0, .slice none 0 0] 41) := ⟨_, rfl⟩
  have BW : Below w.heap.size w W := by rw [hW]; exact (Below.refl _ _).alloc (Nat.le_refl _) _
  have hWs : W.heap.size = w.heap.size + 1 := by rw [hW]; simp
  have b0 : W.heap[w.heap.size]? = some (.cells #[.slice none 0 0, .slice none 0 0] 41 (0, 0)) := by rw [hW]; exact heap_at_new rfl
  have hs2 : ¬ (40 : Int) < (s.size : Int) := by omega
  have HP : Calls Tryz.prog 69 #[.string s] W (fun e w' => e = .returned (.int .i64 (-1)) ∧ W = w') := (rplace_any s W hs).mono (fun e w' ⟨r, he, hP, hw⟩ => ⟨by rw [he, place_whole hP hp hta], hw⟩)
  have HB : Calls Tryz.prog 70 #[.string s] W (fun e w' => e = .returned (.int .i64 (t.sp : Int)) ∧ Below W.heap.size W w') := (rbackward_any s W hs).mono (fun e w' ⟨r, he, hP, hw⟩ => ⟨by rw [he, back_yes hP hp hta hbk], hw⟩)
  obtain ⟨a, Ha⟩ : ∃ x, Hid (t.sp = x) := ⟨_, rfl⟩
  rw [Ha.out] at HB ⊢
  clear hp hta hbk Ha
  go_enter Tryz.func31, Tryz.ntmps31
  go_upto_region 1 with fail
  rw [← hW]
  clear hW
  go_wp2_with fail
  refine HP.mono ?_
  clear HP
  rintro e w1 ⟨rfl, rfl⟩
  go_wp2_with fail
  refine HB.mono ?_
  clear HB
  rintro e w1 ⟨rfl, hB1⟩
  have B1 : Below w.heap.size w w1 := BW.trans (hB1.mono (by omega))
  have a0 := (hB1.block _ (by omega)).trans b0
  have hs1 := hB1.size
  clear hB1 b0
  obtain ⟨q0, q1, p0, p1⟩ := cell_two a0
  go_wp2_with fail
  obtain ⟨_, r2, r1⟩ := res_two (u := .slice none 0 0) (v := .slice none 0 0) a0
  refine bodyPost_ret (v := .tuple #[.agg #[.slice none 0 0, .slice none 0 0], .int .i64 3, .int .i64 (a : Int)]) (by simp [results, Tryz.results31, go_sem, r1, r2]) rfl ?_
  exact ⟨rfl, below_res B1 (b := w.heap.size) (by omega) (.slice none 0 0) (.slice none 0 0)⟩
set_option maxRecDepth 20000 in
set_option maxHeartbeats 4000000 in
theorem rcompile_size (s : ByteArray) (b : Int) (w : World) (hs : s.size ≤ 40) {p : Pat} {t : Sp} (hp : parseF s = .ok p t) (hta : t.a = s.size) (hbk : t.bk = false) (hsz : 10 < p.size) : Calls Tryz.prog 31 #[.string s, .int .i64 b] w (CompNo 4 0 w) := by
  obtain ⟨W, hW⟩ : ∃ W, W = w.alloc (.cells #[.slice none 0 0, .slice none 0 0] 41) := ⟨_, rfl⟩
  have BW : Below w.heap.size w W := by rw [hW]; exact (Below.refl _ _).alloc (Nat.le_refl _) _
  have hWs : W.heap.size = w.heap.size + 1 := by rw [hW]; simp
  have b0 : W.heap[w.heap.size]? = some (.cells #[.slice none 0 0, .slice none 0 0] 41 (0, 0)) := by rw [hW]; exact heap_at_new rfl
  have hs2 : ¬ (40 : Int) < (s.size : Int) := by omega
  have HP : Calls Tryz.prog 69 #[.string s] W (fun e w' => e = .returned (.int .i64 (-1)) ∧ W = w') := (rplace_any s W hs).mono (fun e w' ⟨r, he, hP, hw⟩ => ⟨by rw [he, place_whole hP hp hta], hw⟩)
  have HB : Calls Tryz.prog 70 #[.string s] W (fun e w' => e = .returned (.int .i64 (-1)) ∧ Below W.heap.size W w') := (rbackward_any s W hs).mono (fun e w' ⟨r, he, hP, hw⟩ => ⟨by rw [he, back_no hP hp hta hbk], hw⟩)
  have hPT := parse_text hp hta hbk
  have HS : Hid (∀ w1, Calls Tryz.prog 71 #[.string s] w1 fun e w' => e = .returned (.int .i64 (p.size : Int)) ∧ Below w1.heap.size w1 w') := fun w1 => size_c 6 (by omega) s p w1 hs hPT
  obtain ⟨z, Hz⟩ : ∃ x, Hid (p.size = x) := ⟨_, rfl⟩
  rw [Hz.out] at HS hsz
  have hz2 : (10 : Int) < (z : Int) := by omega
  clear hp hta hbk Hz hPT
  go_enter Tryz.func31, Tryz.ntmps31
  go_upto_region 1 with fail
  rw [← hW]
  clear hW
  go_wp2_with fail
  refine HP.mono ?_
  clear HP
  rintro e w1 ⟨rfl, rfl⟩
  go_wp2_with fail
  refine HB.mono ?_
  clear HB
  rintro e w1 ⟨rfl, hB1⟩
  have HC := HS.out w1
  have hs1 := hB1.size
  go_wp2_with fail
  refine HC.mono ?_
  clear HC HS
  rintro e w2 ⟨rfl, hB2⟩
  have B2 : Below w.heap.size w w2 := (BW.trans (hB1.mono (by omega))).trans (hB2.mono (by omega))
  have a0 := (hB2.block _ (by omega)).trans ((hB1.block _ (by omega)).trans b0)
  have hs3 := hB2.size
  clear hB1 hB2 b0
  obtain ⟨q0, q1, p0, p1⟩ := cell_two a0
  go_wp2_with fail
  obtain ⟨_, r2, r1⟩ := res_two (u := .slice none 0 0) (v := .slice none 0 0) a0
  refine bodyPost_ret (v := .tuple #[.agg #[.slice none 0 0, .slice none 0 0], .int .i64 4, .int .i64 0]) (by simp [results, Tryz.results31, go_sem, r1, r2]) rfl ?_
  exact ⟨rfl, below_res B2 (b := w.heap.size) (by omega) (.slice none 0 0) (.slice none 0 0)⟩
set_option maxRecDepth 20000 in
set_option maxHeartbeats 4000000 in
theorem rcompile_arg (s : ByteArray) (b : Int) (w : World) (hs : s.size ≤ 40) {p : Pat} {t : Sp} (hp : parseF s = .ok p t) (hta : t.a = s.size) (hbk : t.bk = false) (hsz : p.size ≤ 10) (hb : b < 1 ∨ 40 < b) : Calls Tryz.prog 31 #[.string s, .int .i64 b] w (CompNo 8 0 w) := by
  obtain ⟨W, hW⟩ : ∃ W, W = w.alloc (.cells #[.slice none 0 0, .slice none 0 0] 41) := ⟨_, rfl⟩
  have BW : Below w.heap.size w W := by rw [hW]; exact (Below.refl _ _).alloc (Nat.le_refl _) _
  have hWs : W.heap.size = w.heap.size + 1 := by rw [hW]; simp
  have b0 : W.heap[w.heap.size]? = some (.cells #[.slice none 0 0, .slice none 0 0] 41 (0, 0)) := by rw [hW]; exact heap_at_new rfl
  have hs2 : ¬ (40 : Int) < (s.size : Int) := by omega
  have HP : Calls Tryz.prog 69 #[.string s] W (fun e w' => e = .returned (.int .i64 (-1)) ∧ W = w') := (rplace_any s W hs).mono (fun e w' ⟨r, he, hP, hw⟩ => ⟨by rw [he, place_whole hP hp hta], hw⟩)
  have HB : Calls Tryz.prog 70 #[.string s] W (fun e w' => e = .returned (.int .i64 (-1)) ∧ Below W.heap.size W w') := (rbackward_any s W hs).mono (fun e w' ⟨r, he, hP, hw⟩ => ⟨by rw [he, back_no hP hp hta hbk], hw⟩)
  have hPT := parse_text hp hta hbk
  have HS : Hid (∀ w1, Calls Tryz.prog 71 #[.string s] w1 fun e w' => e = .returned (.int .i64 (p.size : Int)) ∧ Below w1.heap.size w1 w') := fun w1 => size_c 6 (by omega) s p w1 hs hPT
  obtain ⟨z, Hz⟩ : ∃ x, Hid (p.size = x) := ⟨_, rfl⟩
  rw [Hz.out] at HS hsz
  have hz2 : ¬ (10 : Int) < (z : Int) := by omega
  have HI : Hid (∀ w1, Calls Tryz.prog 62 #[.int .i64 b] w1 fun e w' => e = .returned (.bool false) ∧ w' = w1) := fun w1 => (isBudget_ok b w1).mono (fun e w' ⟨he, hw⟩ => ⟨by rw [he, show (decide (1 ≤ b) && decide (b ≤ 40)) = false by simp; omega], hw⟩)
  clear hp hta hbk Hz hPT
  go_enter Tryz.func31, Tryz.ntmps31
  go_upto_region 1 with fail
  rw [← hW]
  clear hW
  go_wp2_with fail
  refine HP.mono ?_
  clear HP
  rintro e w1 ⟨rfl, rfl⟩
  go_wp2_with fail
  refine HB.mono ?_
  clear HB
  rintro e w1 ⟨rfl, hB1⟩
  have HC := HS.out w1
  have hs1 := hB1.size
  go_wp2_with fail
  refine HC.mono ?_
  clear HC HS
  rintro e w2 ⟨rfl, hB2⟩
  have B2 : Below w.heap.size w w2 := (BW.trans (hB1.mono (by omega))).trans (hB2.mono (by omega))
  have a0 := (hB2.block _ (by omega)).trans ((hB1.block _ (by omega)).trans b0)
  have hs3 := hB2.size
  clear hB1 hB2 b0
  obtain ⟨q0, q1, p0, p1⟩ := cell_two a0
  have HC := HI.out w2
  go_wp2_with fail
  refine HC.mono ?_
  clear HC HI
  rintro e w3 ⟨rfl, hw3⟩
  obtain rfl : w2 = w3 := hw3.symm
  go_wp2_with fail
  obtain ⟨_, r2, r1⟩ := res_two (u := .slice none 0 0) (v := .slice none 0 0) a0
  refine bodyPost_ret (v := .tuple #[.agg #[.slice none 0 0, .slice none 0 0], .int .i64 8, .int .i64 0]) (by simp [results, Tryz.results31, go_sem, r1, r2]) rfl ?_
  exact ⟨rfl, below_res B2 (b := w.heap.size) (by omega) (.slice none 0 0) (.slice none 0 0)⟩
theorem rcompile_no (s : ByteArray) (b : Int) (w : World) (hss : s.size ≤ maxLen) {er : Int} {pl : Nat} (h : compErr s b = some (er, pl)) : Calls Tryz.prog 31 #[.string s, .int .i64 b] w (CompNo er pl w) := by
  rcases compErr_cases h with ⟨h1, rfl, rfl⟩ | ⟨h1, h2, rfl⟩ | ⟨h1, p, t, hp, hta, ⟨hb, rfl, rfl⟩ | ⟨hb, hz, rfl, rfl⟩ | ⟨hb, hz, hbu, rfl, rfl⟩⟩
  · exact rcompile_long s b w hss h1
  · exact rcompile_bad s b w h1 h2
  · exact rcompile_span s b w h1 hp hta hb
  · exact rcompile_size s b w h1 hp hta hb hz
  · exact rcompile_arg s b w h1 hp hta hb hz hbu
end Go.Proofs.YtpngikmcjkjdaaaGreatDoor
namespace Go.Proofs.YtpngikmcjkjdaaaGreatDoor
open Go.RowKit
set_option linter.unusedVariables false
set_option linter.unusedSimpArgs false
def RCompPost (L : List Nat → Bool) (budget : Nat) (w : World) (e : Ending) (w' : World) : Prop :=
  Below w.heap.size w w' ∧ ((∃ (Q : Lay) (R : Tab), IsLeast R L ∧ R.n ≤ budget ∧ e = .returned (.tuple #[.agg #[.slice (some ⟨Q.ba, Q.oa, none⟩) R.n Q.ca, .slice (some ⟨Q.bn, Q.on, none⟩) R.n Q.cn], .int .i64 0, .int .i64 0]) ∧ TabAt w' Q R) ∨
    (e = .returned (.tuple #[.agg #[.slice none 0 0, .slice none 0 0], .int .i64 5, .int .i64 0]) ∧ ∃ R, IsLeast R L ∧ budget < R.n))
set_option maxRecDepth 20000 in
set_option maxHeartbeats 4000000 in
theorem rcompile_ok (s : ByteArray) (b : Nat) (w : World) {p : Pat} {t : Sp} (hp : parseF s = .ok p t) (hta : t.a = s.size) (hbk : t.bk = false) (hsz : p.size ≤ 10) (hs : s.size ≤ 40) (hb1 : 1 ≤ b) (hb2 : b ≤ 40) :
    Calls Tryz.prog 31 #[.string s, .int .i64 (b : Int)] w (RCompPost (patL p) b w) := by
  obtain ⟨W, hW⟩ : ∃ W, W = w.alloc (.cells #[.slice none 0 0, .slice none 0 0] 41) := ⟨_, rfl⟩
  have BW : Below w.heap.size w W := by rw [hW]; exact (Below.refl _ _).alloc (Nat.le_refl _) _
  have hWs : W.heap.size = w.heap.size + 1 := by rw [hW]; simp
  have b0 : W.heap[w.heap.size]? = some (.cells #[.slice none 0 0, .slice none 0 0] 41 (0, 0)) := by rw [hW]; exact heap_at_new rfl
  have hs2 : ¬ (40 : Int) < (s.size : Int) := by omega
  have HP : Calls Tryz.prog 69 #[.string s] W (fun e w' => e = .returned (.int .i64 (-1)) ∧ W = w') := (rplace_any s W hs).mono (fun e w' ⟨r, he, hP, hw⟩ => ⟨by rw [he, place_whole hP hp hta], hw⟩)
  have HB : Calls Tryz.prog 70 #[.string s] W (fun e w' => e = .returned (.int .i64 (-1)) ∧ Below W.heap.size W w') := (rbackward_any s W hs).mono (fun e w' ⟨r, he, hP, hw⟩ => ⟨by rw [he, back_no hP hp hta hbk], hw⟩)
  have hPT := parse_text hp hta hbk
  have HS : Hid (∀ w1, Calls Tryz.prog 71 #[.string s] w1 fun e w' => e = .returned (.int .i64 (p.size : Int)) ∧ Below w1.heap.size w1 w') := fun w1 => size_c 6 (by omega) s p w1 hs hPT
  have HM : Hid (∀ w1, Calls Tryz.prog 73 #[.string s] w1 fun e w' => ∃ g E, e = .returned (.pointer (some ⟨g, 0, none⟩)) ∧ ExAt w' g E ∧ Mild E ∧ Hid (∀ x, Notes x → (E.lang x ↔ patL p x = true)) ∧ Below w1.heap.size w1 w') := fun w1 => (meaning_c 6 s p w1 hs hPT).mono (fun e w' ⟨g, E, h1, h2, h3, h4⟩ => ⟨g, E, h1, h2, mild_of h3.can h3.let_ h3.wt h3.dp hPT (by rw [txt_len]; exact hs) hsz, fun x hx => ex_lang h3 x hx, h4⟩)
  obtain ⟨L, HL⟩ : ∃ x, Hid (patL p = x) := ⟨_, rfl⟩
  obtain ⟨z, Hz⟩ : ∃ x, Hid (p.size = x) := ⟨_, rfl⟩
  rw [Hz.out] at HS hsz
  rw [HL.out] at HM ⊢
  have hz2 : ¬ (10 : Int) < (z : Int) := by omega
  have HI : Hid (∀ w1, Calls Tryz.prog 62 #[.int .i64 (b : Int)] w1 fun e w' => e = .returned (.bool true) ∧ w' = w1) := fun w1 => (isBudget_ok (b : Int) w1).mono (fun e w' ⟨he, hw⟩ => ⟨by rw [he, show (decide (1 ≤ (b : Int)) && decide ((b : Int) ≤ 40)) = true by simp; omega], hw⟩)
  clear hp hta hbk Hz hPT HL
  go_enter Tryz.func31, Tryz.ntmps31
  go_upto_region 1 with fail
  rw [← hW]
  clear hW
  go_wp2_with fail
  refine HP.mono ?_
  clear HP
  rintro e w1 ⟨rfl, rfl⟩
  go_wp2_with fail
  refine HB.mono ?_
  clear HB
  rintro e w1 ⟨rfl, hB1⟩
  have HC := HS.out w1
  have hs1 := hB1.size
  go_wp2_with fail
  refine HC.mono ?_
  clear HC HS
  rintro e w2 ⟨rfl, hB2⟩
  have B2 : Below W.heap.size W w2 := hB1.trans (hB2.mono (by omega))
  have hs3 := hB2.size
  clear hB1 hB2
  have HC := HI.out w2
  go_wp2_with fail
  refine HC.mono ?_
  clear HC HI
  rintro e w3 ⟨rfl, hw3⟩
  obtain rfl : w2 = w3 := hw3.symm
  have HC := HM.out w2
  go_wp2_with fail
  refine HC.mono ?_
  clear HC HM
  rintro e w3 ⟨g, E, rfl, hEx, hMi, hLg, hB3⟩
  have B3 : Below W.heap.size W w3 := B2.trans (hB3.mono (by omega))
  have hs4 := hB3.size
  have HC := rrestTable_ok E g w3 hEx hMi
  have HMi : Hid (Mild E) := hMi
  clear hB3 B2 hMi hEx
  go_wp2_with fail
  refine HC.mono ?_
  clear HC
  rintro e w4 ⟨Z, ps, hPR, rfl, hT, hFr, hB4⟩
  have hlen := hPR.len
  have hbd := boundE HMi.out.let_ hPR
  have hnum := numberedE hPR
  have hLg2 : Hid (∀ x, Notes x → (tabE E ps).accepts x = L x) := fun x hx => by rw [Bool.eq_iff_iff, tabE_accepts HMi.out.can hPR x hx, hLg.out x hx]
  have HC := rleast_ok Z (tabE E ps) w4 hlen (by show ps.length ≤ 100000000; omega) (fun i c hi hc => hnum.nx i c hi hc) hT
  rw [show (tabE E ps).n = ps.length from rfl] at HC
  have B4 : Below W.heap.size W w4 := B3.trans (hB4.mono (by omega))
  have hs5 := hB4.size
  clear hT hPR hFr hnum hB4 B3 HMi hLg
  go_wp2_with fail
  refine HC.mono ?_
  clear HC
  rintro e w5 ⟨hB5, Q, R, hR, rfl, hT, hF⟩
  have hs6 := hB5.size
  have hR2 : Hid (IsLeast R L) := hR.lang_congr hLg2.out
  have B5 : Below W.heap.size W w5 := B4.trans (hB5.mono (by omega))
  clear hR hLg2 hB5 B4
  go_upto_region 16 with fail
  obtain ⟨W6, hW6⟩ : ∃ W6, W6 = w5.alloc (.cells #[.slice (some ⟨Q.ba, Q.oa, none⟩) R.n Q.ca, .slice (some ⟨Q.bn, Q.on, none⟩) R.n Q.cn] 41) := ⟨_, rfl⟩
  have b6 : Below w5.heap.size w5 W6 := by rw [hW6]; exact (Below.refl _ _).alloc (Nat.le_refl _) _
  have s6 : W6.heap.size = w5.heap.size + 1 := by rw [hW6]; simp
  have q6 : W6.heap[w5.heap.size]? = some (.cells #[.slice (some ⟨Q.ba, Q.oa, none⟩) R.n Q.ca, .slice (some ⟨Q.bn, Q.on, none⟩) R.n Q.cn] 41 (0, 0)) := by rw [hW6]; exact heap_at_new rfl
  rw [← hW6]
  clear hW6
  have B6 : Below W.heap.size W W6 := B5.trans (b6.mono (by omega))
  have HT5 : Hid (TabAt w5 Q R) := hT
  have HB6 : Hid (Below w5.heap.size w5 W6) := b6
  have HFr : Hid (Q.From w4.heap.size R.n) := hF
  obtain ⟨x0, x1, _, _⟩ := cell_two q6
  clear hT hF b6 B5
  by_cases hle : R.n ≤ b
  · have HC := bounded_yes (some ⟨Q.ba, Q.oa, none⟩) (some ⟨Q.bn, Q.on, none⟩) R.n Q.ca R.n Q.cn (b : Int) W6 (by omega)
    go_wp2_with fail
    refine HC.mono ?_
    clear HC
    rintro e w7 ⟨rfl, hB7⟩
    have hs7 := hB7.size
    have B7 : Below W.heap.size W w7 := B6.trans (hB7.mono (by omega))
    have d2 := (B7.block _ (by omega)).trans b0
    have d3 := (hB7.block _ (by omega)).trans q6
    have BW7 : Below w.heap.size w w7 := BW.trans (B7.mono (by omega))
    have HB7 : Hid (Below w5.heap.size w5 w7) := HB6.out.trans (hB7.mono (by omega))
    obtain ⟨q0, q1, p0, p1⟩ := cell_two d2
    obtain ⟨y0, y1, _, _⟩ := cell_two d3
    clear hB7 B7 B6 x0 x1 q6
    go_wp2_with fail
    have BW8 := below_res BW7 (b := w5.heap.size) (by omega) (.slice (some ⟨Q.ba, Q.oa, none⟩) R.n Q.ca) (.slice (some ⟨Q.bn, Q.on, none⟩) R.n Q.cn)
    have HT8 := HT5.out.below (below_res HB7.out (b := w5.heap.size) (Nat.le_refl _) (.slice (some ⟨Q.ba, Q.oa, none⟩) R.n Q.ca) (.slice (some ⟨Q.bn, Q.on, none⟩) R.n Q.cn))
    have e2 := heap_set_other (u := .slice (some ⟨Q.bn, Q.on, none⟩) R.n Q.cn) (a := ⟨w5.heap.size, 1, none⟩) (heap_set_other (u := .slice (some ⟨Q.ba, Q.oa, none⟩) R.n Q.ca) (a := ⟨w5.heap.size, 0, none⟩) d2 (by show w.heap.size ≠ w5.heap.size; omega)) (by show w.heap.size ≠ w5.heap.size; omega)
    obtain ⟨_, r2, r1⟩ := res_two (u := .slice (some ⟨Q.ba, Q.oa, none⟩) R.n Q.ca) (v := .slice (some ⟨Q.bn, Q.on, none⟩) R.n Q.cn) e2
    refine bodyPost_ret (v := .tuple #[.agg #[.slice (some ⟨Q.ba, Q.oa, none⟩) R.n Q.ca, .slice (some ⟨Q.bn, Q.on, none⟩) R.n Q.cn], .int .i64 0, .int .i64 0]) (by simp [results, Tryz.results31, go_sem, r1, r2]) rfl ?_
    exact ⟨below_res BW8 (b := w.heap.size) (by omega) _ _, .inl ⟨Q, R, hR2.out, hle, rfl, HT8.res HFr.out (b := w.heap.size) (by omega) _ _⟩⟩
  · have HC := bounded_no (some ⟨Q.ba, Q.oa, none⟩) (some ⟨Q.bn, Q.on, none⟩) R.n Q.ca R.n Q.cn (b : Int) W6 (by omega)
    go_wp2_with fail
    refine HC.mono ?_
    clear HC
    rintro e w7 ⟨rfl, hB7⟩
    have hs7 := hB7.size
    have B7 : Below W.heap.size W w7 := B6.trans (hB7.mono (by omega))
    have d2 := (B7.block _ (by omega)).trans b0
    have d3 := (hB7.block _ (by omega)).trans q6
    have BW7 : Below w.heap.size w w7 := BW.trans (B7.mono (by omega))
    obtain ⟨q0, q1, p0, p1⟩ := cell_two d2
    obtain ⟨y0, y1, _, _⟩ := cell_two d3
    clear hB7 B7 B6 x0 x1 q6
    go_wp2_with fail
    have BW8 := below_res BW7 (b := w5.heap.size) (by omega) (.slice none 0 0) (.slice none 0 0)
    have e2 := heap_set_other (u := .slice none 0 0) (a := ⟨w5.heap.size, 1, none⟩) (heap_set_other (u := .slice none 0 0) (a := ⟨w5.heap.size, 0, none⟩) d2 (by show w.heap.size ≠ w5.heap.size; omega)) (by show w.heap.size ≠ w5.heap.size; omega)
    obtain ⟨_, r2, r1⟩ := res_two (u := .slice none 0 0) (v := .slice none 0 0) e2
    refine bodyPost_ret (v := .tuple #[.agg #[.slice none 0 0, .slice none 0 0], .int .i64 5, .int .i64 0]) (by simp [results, Tryz.results31, go_sem, r1, r2]) rfl ?_
    exact ⟨below_res BW8 (b := w.heap.size) (by omega) _ _, .inr ⟨rfl, R, hR2.out, by omega⟩⟩
end Go.Proofs.YtpngikmcjkjdaaaGreatDoor
namespace Go.Proofs.YtpngikmcjkjdaaaGreatDoor
open Go.RowKit
set_option linter.unusedVariables false
def RowTo (w : World) (b t n : Nat) (f : Nat → Value) : Prop := ∃ c : Array Value, w.heap[b]? = some (.cells c t (0, 0)) ∧ n ≤ c.size ∧ ∀ i, i < n → c[i]? = some (f i)
namespace RowTo
variable {w : World} {b t n : Nat} {f g : Nat → Value}
theorem cell (h : RowTo w b t n f) {i : Nat} (hi : i < n) : w.cell? ⟨b, i, none⟩ = some (f i) := by
  obtain ⟨c, hb, _, hc⟩ := h
  simp [World.cell?, hb, hc i hi]
theorem frozen (h : RowTo w b t n f) (i : Nat) : w.frozen? ⟨b, i, none⟩ = false := by
  obtain ⟨c, hb, _, _⟩ := h
  simp [World.frozen?, hb]
theorem lt (h : RowTo w b t n f) : b < w.heap.size := by
  obtain ⟨c, hb, _, _⟩ := h
  exact heap_lt hb
theorem congr (h : RowTo w b t n f) (e : ∀ i, i < n → f i = g i) : RowTo w b t n g := by
  obtain ⟨c, hb, hn, hc⟩ := h
  exact ⟨c, hb, hn, fun i hi => by rw [hc i hi, e i hi]⟩
theorem of_block {w' : World} (h : RowTo w b t n f) (e : w'.heap[b]? = w.heap[b]?) : RowTo w' b t n f := by
  obtain ⟨c, hb, hn, hc⟩ := h
  exact ⟨c, e.trans hb, hn, hc⟩
theorem below {w' : World} (h : RowTo w b t n f) (hb : Below w.heap.size w w') : RowTo w' b t n f := h.of_block (hb.block b h.lt)
theorem set (h : RowTo w b t n f) (i : Nat) (v : Value) : RowTo (w.setCell ⟨b, i, none⟩ v) b t n (fun j => if j = i then v else f j) := by
  obtain ⟨c, hb, hn, hc⟩ := h
  refine ⟨c.setIfInBounds i v, ?_, by simpa using hn, fun j hj => ?_⟩
  · simp [World.setCell, Array.getElem?_modify, hb]
  · rw [Array.getElem?_setIfInBounds]
    by_cases e : j = i
    · subst e
      simp; omega
    · rw [if_neg (fun h => e h.symm)]
      show c[j]? = some (if j = i then v else f j)
      rw [if_neg e]
      exact hc j hj
theorem setOther (h : RowTo w b t n f) {a : Addr} (ha : b ≠ a.block) (v : Value) : RowTo (w.setCell a v) b t n f := h.of_block (Below.heap_setCell w a v b ha)
theorem alloc (h : RowTo w b t n f) (o : Obj) : RowTo (w.alloc o) b t n f := h.of_block (Below.heap_alloc w o b h.lt)
theorem drew (h : RowTo w b t n f) : RowTo w.drew b t n f := h
theorem mono (h : RowTo w b t n f) {m : Nat} (hm : m ≤ n) : RowTo w b t m f := by
  obtain ⟨c, hb, hn, hc⟩ := h
  exact ⟨c, hb, by omega, fun i hi => hc i (by omega)⟩
theorem ne {b' t' n' : Nat} {f' : Nat → Value} (h : RowTo w b t n f) (h' : RowTo w b' t' n' f') (ht : t ≠ t') : b ≠ b' := by
  obtain ⟨c, hb, _, _⟩ := h
  obtain ⟨c', hb', _, _⟩ := h'
  intro e
  subst e
  rw [hb] at hb'
  simp only [Option.some.injEq, Obj.cells.injEq] at hb'
  exact ht hb'.2.1
theorem ofRow (h : w.rowIs b t n f) : RowTo w b t n f := by
  obtain ⟨c, hb, hn, hc⟩ := h
  exact ⟨c, hb, by omega, hc⟩
end RowTo
theorem RowTo.ofOwn {w : World} {base e n : Nat} {g cap : Nat} {x : List Value} {f : Nat → Value} (h : w.ownsRow base e 1 (.slice (some ⟨g, 0, none⟩) n cap) n x) (hx : ∀ i, i < n → x[i]? = some (f i)) : RowTo w g e n f := by
  have hl := h.1
  rcases h.2 with ⟨h0, _⟩ | ⟨g', cap', cur, h0, hb, hg, hn, hc, hs, ht⟩
  · cases h0
  · injection h0 with e1 e2 e3
    injection e1 with e1
    injection e1 with e1
    subst e1
    subst e3
    refine ⟨cur, hg, by rw [hs]; omega, fun i hi => ?_⟩
    have h2 := hx i hi
    rw [← ht] at h2
    rw [List.getElem?_take] at h2
    split at h2
    · simpa using h2
    · simp at h2
theorem wpList_append_zero {P : Program} (w : World) {ops : Array Oper} {rest : List Oper} {o : Oper} {a : Act} {Q : Exit → Act → World → Prop} (hgd : o.guard = none) (s x : Operand) (t : TypeId)
    (ho : o.op = .call { callee := .builtin .append, args := #[s, x], argTypes := #[t, t] })
    (e : TypeId) (i : TypeInfo) (ht : P.underlying t = some (.slice e)) (hi : P.info? e = some i)
    (ao : Option Addr) (c : Nat) (hs : a.eval s = .slice none 0 0) (hx : a.eval x = .slice ao 0 c)
    (h : wpList P ops Q rest (a.put o.dst (.slice none 0 0)) w) : wpList P ops Q (o :: rest) a w := by
  refine wpList_plain hgd fun K hK => ?_
  have hsrc : Src P i.size t (.slice ao 0 c) 0 [] w := by
    cases ao with
    | none => exact Src.ofNil w ht c
    | some ad => exact Src.ofSlice w ht ad 0 c [] (by simp) (by simp) (by simp)
  have hrun := run_append_nothing (P := P) w t t o.type e i ht hi none 0 0 (by omega) (.slice ao 0 c) hsrc
  unfold Oper.wp execOp
  simp only [ho, resolve, invoke, builtin, Sem.run_bind, Sem.run_pure, Result.andThen_ok, List.map_toArray, List.map_cons, List.map_nil, hs, hx, hrun]
  exact hK _ _ h
theorem range_get (f : Nat → Value) (m j : Nat) (h : j < m) : ((List.range m).map f)[j]? = some (f j) := by simp [h]
theorem wpList_append_copy {P : Program} (w : World) {ops : Array Oper} {rest : List Oper} {o : Oper} {a : Act} {Q : Exit → Act → World → Prop} (hgd : o.guard = none) (s x : Operand) (t : TypeId)
    (ho : o.op = .call { callee := .builtin .append, args := #[s, x], argTypes := #[t, t] })
    (e : TypeId) (i : TypeInfo) (z : Value) (bytes : Nat) (ht : P.underlying t = some (.slice e)) (hi : P.info? e = some i) (hz : i.zero = some z)
    (hsize : i.size = 1) (hby : i.bytes = bytes) (hzs : z.cells.size = 1)
    (b0 o0 m c : Nat) (f : Nat → Value) (hs : a.eval s = .slice none 0 0) (hx : a.eval x = .slice (some ⟨b0, o0, none⟩) m c) (hf : ∀ j, j < m → w.cell? ⟨b0, o0 + j, none⟩ = some (f j)) (h1 : ∀ j, (f j).oneCell' = true)
    (hm : 0 < m) (h63 : m ≤ maxLen) (hbytes : m * bytes ≤ 140737488355328)
    (h : ∀ cap w', RowTo w' w.heap.size e m f → w.grownBy w' none → wpList P ops Q rest (a.put o.dst (.slice (some ⟨w.heap.size, 0, none⟩) m cap)) w') : wpList P ops Q (o :: rest) a w := by
  refine wpList_append_fresh w hgd s x t ho w.heap.size e i z 1 bytes ht hi hz hsize hby hzs (by decide) (.slice none 0 0) 0 [] hs (World.ownsRow_nil _ _ _ _) ⟨b0, o0, none⟩ m c ((List.range m).map f) hx (by simp) ?_ ?_ hm (by simpa using h63) (by simpa using hbytes) (Nat.le_refl _) ?_
  · intro j u hu
    have hj : j < m := by
      have := (List.getElem?_eq_some_iff.1 hu).1
      simpa using this
    rw [range_get f m j hj] at hu
    have hadd : (⟨b0, o0, none⟩ : Addr).add j = ⟨b0, o0 + j, none⟩ := by unfold Addr.add; split <;> simp_all
    rw [hadd, hf j hj]; exact hu
  · intro u hu
    simp only [List.mem_map, List.mem_range] at hu
    obtain ⟨j, _, rfl⟩ := hu
    exact h1 j
  · intro g cap w' hown hg hfr
    have hgs : g = w.heap.size := by
      rcases hfr with h | h
      · simp [Value.ownBlock] at h
      · exact h
    subst hgs
    rw [Nat.zero_add] at hown ⊢
    exact h cap w' (RowTo.ofOwn hown (fun j hj => by simpa using range_get f m j hj)) hg
theorem RowTo.grown {w w2 : World} {b t n : Nat} {f : Nat → Value} (h : RowTo w b t n f) {base e s n' : Nat} {v : Value} {x : List Value} (ho : w.ownsRow base e s v n' x) (hne : t ≠ e) (hg : w.grownBy w2 v.ownBlock) : RowTo w2 b t n f := by
  refine h.of_block (hg.block b h.lt (fun e' => ?_))
  rcases ho.2 with ⟨rfl, _⟩ | ⟨g, cap, cur, rfl, _, hg', _⟩
  · simp [Value.ownBlock] at e'
  · simp only [Value.ownBlock, Option.some.injEq] at e'
    subst e'
    obtain ⟨c, hb, _, _⟩ := h
    rw [hb] at hg'
    simp only [Option.some.injEq, Obj.cells.injEq] at hg'
    exact hne hg'.2.1
theorem below_grown {w w2 : World} (hg : w.grownBy w2 none) : Below w.heap.size w w2 := ⟨hg.os, hg.tape, hg.output, hg.size, fun k hk => hg.block k hk (by simp)⟩
end Go.Proofs.YtpngikmcjkjdaaaGreatDoor
